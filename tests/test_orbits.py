import unittest

from spoolrounds.far import after
from spoolrounds.lays import Lay
from spoolrounds.orbits import Orbits
from things import GREAT, same
from walks import great_lays, small_lays, some, walked


class After(unittest.TestCase):
    def test_against_a_walk(self):
        rng = some("orbits")
        for lay in small_lays("orbits", 300, most_spots=20, most_pieces=8):
            orbits = Orbits(lay)
            for spot in range(lay.spots()):
                for rounds in (0, 1, 2, rng.randint(3, 60)):
                    self.assertTrue(same(orbits.after(spot, rounds), walked(lay, spot, rounds)))
                    self.assertTrue(same(orbits.after(spot, -rounds), walked(lay.back(), spot, rounds)))

    def test_great_ones(self):
        rng = some("great orbits")
        for name, lay in great_lays():
            with self.subTest(name):
                orbits = Orbits(lay)
                for _ in range(30):
                    spot, rounds = rng.randrange(lay.spots()), rng.randint(-GREAT, GREAT)
                    self.assertEqual(orbits.after(spot, rounds), after(lay, spot, rounds))

    def test_of_no_spots(self):
        Orbits(Lay(0, []))


if __name__ == "__main__":
    unittest.main()
