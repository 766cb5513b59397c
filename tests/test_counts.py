import math
import unittest

from spoolrounds.counts import rounds_fit
from spoolrounds.errors import NoSpot
from spoolrounds.far import after
from spoolrounds.lays import Lay
from spoolrounds.rings import ring, whole
from things import GREAT, anything, deep, refusal, same
from walks import great_lays, small_lays, some, table_of

BY_ONE = Lay(12, [(0, 11, 1, 1), (11, 1, 0, 1)])
# A ring of two spots, one of three which comes back turned over, one of four, a spot that is turned over in place.
APART = Lay(10, [(0, 1, 1, 1), (1, 1, 0, 1), (2, 2, 3, 1), (4, 1, 2, -1), (5, 3, 6, 1), (8, 1, 5, 1), (9, 1, 9, -1)])


def numbers(lay, sight, entire):
    """Walked: all numbers of rounds below the whole that fit a sight."""
    start, to, way = sight
    goes = table_of(lay)
    at, its = start, 1
    found = set()
    for number in range(entire):
        if at == to and way in (None, its):
            found.add(number)
        at, its = goes[at][0], its * goes[at][1]
    return found


def told_of(sets, entire):
    """What comes of sets of numbers of rounds below the whole."""
    for k, found in enumerate(sets):
        if not found:
            return ("never", k)
    left = set(range(entire))
    for k, found in enumerate(sets):
        left &= found
        if not left:
            return ("clash", min(j for j in range(k) if not sets[j] & found), k)
    return left


def any_sights(rng, lay, entire):
    sights = []
    number = rng.randrange(entire)
    for _ in range(rng.randint(0, 4)):
        start = rng.randrange(lay.spots())
        to, way = after(lay, start, number if rng.random() < 0.6 else rng.randrange(entire))
        if rng.random() < 0.1:
            to, way = rng.randrange(lay.spots()), rng.choice((1, -1))
        sights.append((start, to, rng.choice((way, None))))
    return sights


class Fit(unittest.TestCase):
    def check(self, lay, sights, told):
        self.assertTrue(same(rounds_fit(lay, sights), told))
        self.assertTrue(same(rounds_fit(lay, tuple(sights)), told))

    def test_against_a_walk(self):
        rng = some("counts")
        kinds = {}
        for lay in small_lays("counts", 600, most_spots=18):
            entire = whole(lay)[1]
            if entire > 1000:
                continue
            sights = any_sights(rng, lay, entire)
            found = told_of([numbers(lay, sight, entire) for sight in sights], entire)
            told = rounds_fit(lay, sights)
            kinds[told[0]] = kinds.get(told[0], 0) + 1
            if isinstance(found, tuple):
                self.assertTrue(same(told, found))
            else:
                word, rest, by = told
                self.assertEqual(word, "fits")
                self.assertTrue(0 <= rest < by)
                self.assertEqual(entire % by, 0)
                self.assertEqual({number for number in range(entire) if number % by == rest}, found)
        self.assertTrue(all(kinds.get(word, 0) > 10 for word in ("fits", "never", "clash")))

    def test_no_sights(self):
        for lay in (Lay(0, []), BY_ONE, APART):
            self.check(lay, [], ("fits", 0, 1))

    def test_one_sight(self):
        for sight, told in (
            ((3, 3, 1), ("fits", 0, 12)), ((3, 3, None), ("fits", 0, 12)), ((3, 2, 1), ("fits", 11, 12)), ((3, 5, None), ("fits", 2, 12)),
            ((3, 3, -1), ("never", 0)), ((3, 5, -1), ("never", 0)),
        ):
            self.check(BY_ONE, [sight], told)
        for sight, told in (
            ((2, 2, 1), ("fits", 0, 6)), ((2, 2, -1), ("fits", 3, 6)), ((2, 2, None), ("fits", 0, 3)), ((2, 4, 1), ("fits", 2, 6)),
            ((2, 4, -1), ("fits", 5, 6)), ((2, 4, None), ("fits", 2, 3)), ((4, 2, -1), ("fits", 1, 6)), ((4, 2, 1), ("fits", 4, 6)),
            ((9, 9, 1), ("fits", 0, 2)), ((9, 9, -1), ("fits", 1, 2)), ((9, 9, None), ("fits", 0, 1)), ((0, 2, None), ("never", 0)),
            ((0, 1, 1), ("fits", 1, 2)), ((0, 1, -1), ("never", 0)), ((5, 8, 1), ("fits", 3, 4)),
        ):
            self.check(APART, [sight], told)
        self.assertEqual(rounds_fit(lay=APART, sights=[(0, 1, 1)]), ("fits", 1, 2))

    def test_sights_together(self):
        for sights, told in (
            ([(0, 1, 1), (2, 4, None)], ("fits", 5, 6)), ([(2, 4, None), (0, 0, 1)], ("fits", 2, 6)),
            ([(5, 7, 1), (2, 3, -1), (0, 0, None)], ("fits", 10, 12)), ([(9, 9, None), (9, 9, None)], ("fits", 0, 1)),
            ([(5, 8, 1), (5, 8, 1)], ("fits", 3, 4)), ([(0, 0, 1), (5, 8, 1)], ("clash", 0, 1)),
            ([(2, 4, 1), (0, 1, 1), (5, 8, 1)], ("clash", 0, 1)), ([(2, 4, None), (0, 1, 1), (5, 7, 1)], ("clash", 1, 2)),
            ([(9, 9, -1), (2, 2, None), (0, 0, 1)], ("clash", 0, 2)), ([(0, 1, 1), (9, 9, 1), (0, 2, 1)], ("never", 2)),
            ([(0, 1, 1), (0, 1, -1), (0, 2, 1)], ("never", 1)), ([(0, 1, 1), (2, 3, 1), (9, 9, -1), (5, 7, None)], ("clash", 0, 3)),
            ([(5, 6, 1), (0, 1, 1), (0, 0, 1), (5, 5, 1)], ("clash", 0, 2)),
        ):
            self.check(APART, sights, told)

    def test_great_ones(self):
        rng = some("great sights")
        for name, lay in great_lays(GREAT):
            with self.subTest(name):
                number = rng.randrange(GREAT)
                sights = []
                for spot in (0, lay.spots() // 3, lay.spots() - 1):
                    to, way = after(lay, spot, number)
                    sights.append((spot, to, rng.choice((way, None))))
                word, rest, by = rounds_fit(lay, sights)
                self.assertEqual(word, "fits")
                self.assertEqual((number - rest) % by, 0)
                lengths = []
                for spot, _, way in sights:
                    length, turned = ring(lay, spot)
                    lengths.append(length if turned == 1 or way is None else 2 * length)
                self.assertEqual(by, math.lcm(*lengths))
                for spot, to, way in sights:
                    self.assertEqual(after(lay, spot, rest)[0], to)
                    self.assertIn(way, (None, after(lay, spot, rest)[1]))

    def test_great_clash(self):
        lay = Lay(GREAT, [(0, GREAT - 2, 2, 1), (GREAT - 2, 2, 0, 1)])
        self.check(lay, [(0, 6, 1), (1, 7, None)], ("fits", 3, GREAT // 2))
        self.check(lay, [(0, GREAT - 2, 1), (1, GREAT - 3, 1)], ("clash", 0, 1))
        self.check(lay, [(0, 7, None)], ("never", 0))

    def test_what_is_handed_in_stays(self):
        sights = [(0, 1, 1), (2, 4, None)]
        rounds_fit(APART, sights)
        self.assertEqual(sights, [(0, 1, 1), (2, 4, None)])


class NoSpots(unittest.TestCase):
    def test_no_spot(self):
        for lay in (BY_ONE, Lay(0, [])):
            for thing in [*anything(), lay.spots(), -1]:
                if type(thing) is int and 0 <= thing < lay.spots():
                    continue
                asked = [[(thing, thing, None)], [(thing, 0, 1)], [(thing, 0, 1), (0, 50, 1)]]
                if lay.spots():
                    asked += [[(0, thing, 1)], [(0, 1, 1), (0, thing, 1)], [(0, 0, 1), (0, 1, 1), (5, thing, 1), (13, 14, 1)]]
                    asked += [[(0, 0, -1), (thing, 0, 1)]]
                for sights in asked:
                    error = refusal(rounds_fit, lay, sights)
                    self.assertIs(type(error), NoSpot)
                    self.assertIsInstance(error, IndexError)
                    self.assertTrue(same(error.asked, thing))
        self.assertIs(type(refusal(rounds_fit, BY_ONE, [(deep(20000), 0, 1)])), NoSpot)

    def test_the_first_one(self):
        for sights, asked in (
            ([(0, 12, 1), (13, 0, 1)], 12), ([(0, 1, 1), (13, 14, 1)], 13), ([(12, 13, 1)], 12), ([(0, 1, -1), (1, 20, 1)], 20),
        ):
            self.assertEqual(refusal(rounds_fit, BY_ONE, sights).asked, asked)


if __name__ == "__main__":
    unittest.main()
