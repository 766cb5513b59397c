import unittest

from spoolrounds.beside import done, either_order, side_by_side
from spoolrounds.errors import NoLay, NoSpot
from spoolrounds.far import after
from spoolrounds.lays import Lay
from spoolrounds.rings import whole
from things import GREAT, anything, deep, refusal, same
from walks import great_lays, lay_of_parts, small_lay, small_lays, some, table_of

BY_ONE = Lay(7, [(0, 6, 1, 1), (6, 1, 0, 1)])


def still(total):
    return Lay(total, [(0, total, 0, 1)] if total else [])


def power(lay, times):
    """A laying done so many times, done one by one."""
    made = still(lay.spots())
    for _ in range(times):
        made = made.then(lay)
    return made


def parted_walked(lay, spot, most):
    goes = table_of(lay)
    one, other = (spot, 1), (spot + 1, 1)
    for rounds in range(1, most):
        one, other = [(goes[at][0], way * goes[at][1]) for at, way in (one, other)]
        if one[1] != other[1] or other[0] != one[0] + one[1]:
            return rounds
    return None


class SideBySide(unittest.TestCase):
    def test_against_a_walk(self):
        for lay in small_lays("beside", 300, most_spots=16):
            for spot in range(lay.spots() - 1):
                told = side_by_side(lay, spot)
                self.assertTrue(same(told, parted_walked(lay, spot, 2 * lay.spots() + 2)))

    def test_told_ones(self):
        for lay, spot, told in (
            (BY_ONE, 0, 6), (BY_ONE, 5, 1), (still(2), 0, None), (Lay(9, [(0, 9, 0, -1)]), 4, None), (Lay(9, [(0, 9, 0, -1)]), 7, None),
            (Lay(4, [(0, 2, 2, 1), (2, 2, 0, 1)]), 0, None), (Lay(4, [(0, 2, 2, 1), (2, 2, 0, 1)]), 1, 1),
            (Lay(4, [(0, 2, 2, -1), (2, 2, 0, 1)]), 2, None), (Lay(4, [(0, 2, 2, -1), (2, 2, 0, 1)]), 1, 1),
            (Lay(2, [(0, 1, 0, 1), (1, 1, 1, -1)]), 0, 1), (Lay(2, [(0, 1, 0, -1), (1, 1, 1, -1)]), 0, 1),
        ):
            self.assertTrue(same(side_by_side(lay, spot), told))
        self.assertEqual(side_by_side(lay=BY_ONE, spot=3), 3)

    def test_behind_one_round_where_a_piece_ends(self):
        for name, lay in great_lays():
            with self.subTest(name):
                ends = [first + many - 1 for first, many, _, _ in lay.pieces()]
                for spot in [*ends[:-1], *[end + 1 for end in ends[:-1]], *[end - 1 for end in ends[1:-1]], 0]:
                    if spot < lay.spots() - 1:
                        self.assertEqual(side_by_side(lay, spot) == 1, spot in ends)

    def test_great_ones(self):
        for name, lay in great_lays():
            with self.subTest(name):
                for spot in (0, lay.spots() // 3, lay.spots() // 2, lay.spots() - 2):
                    rounds = side_by_side(lay, spot)
                    far = whole_of(lay, spot) if rounds is None else rounds - 1
                    there, way = after(lay, spot, far)
                    self.assertEqual(after(lay, spot + 1, far), (there + way, way))
                    if rounds is not None:
                        there, way = after(lay, spot, rounds)
                        self.assertNotEqual(after(lay, spot + 1, rounds), (there + way, way))
        most = 2 * GREAT
        by_one = Lay(most, [(0, most - 1, 1, 1), (most - 1, 1, 0, 1)])
        self.assertEqual(side_by_side(by_one, 5), most - 6)
        self.assertIsNone(side_by_side(Lay(most, [(0, most, 0, -1)]), 5))

    def test_no_spot(self):
        for lay in (BY_ONE, still(0), still(1), Lay(1, [(0, 1, 0, -1)]), still(2 * GREAT)):
            for thing in [*anything(), lay.spots() - 1, lay.spots(), -1]:
                if type(thing) is int and 0 <= thing < lay.spots() - 1:
                    continue
                error = refusal(side_by_side, lay, thing)
                self.assertIs(type(error), NoSpot)
                self.assertIsInstance(error, IndexError)
                self.assertTrue(same(error.asked, thing))
        self.assertIs(type(refusal(side_by_side, BY_ONE, deep(20000))), NoSpot)


def whole_of(lay, spot):
    """Some number of rounds, as good as any where neighbours are never parted."""
    return GREAT - spot % 1000


class EitherOrder(unittest.TestCase):
    def test_against_a_walk(self):
        rng = some("either order")
        told_some = 0
        for _ in range(400):
            one = small_lay(rng, most_spots=8)
            other = power(one, rng.randint(0, 4)) if rng.random() < 0.3 else small_lay(rng, most_spots=8)
            if one.spots() != other.spots():
                continue
            there, back = table_of(one.then(other)), table_of(other.then(one))
            otherwise = [spot for spot in range(one.spots()) if there[spot] != back[spot]]
            told = either_order(one, other)
            told_some += told is not None
            self.assertTrue(same(told, otherwise[0] if otherwise else None))
            self.assertEqual(either_order(other, one), told)
        self.assertGreater(told_some, 10)

    def test_told_ones(self):
        about = Lay(7, [(0, 7, 0, -1)])
        for one, other, told in (
            (BY_ONE, BY_ONE, None), (BY_ONE, still(7), None), (BY_ONE, about, 0), (still(0), still(0), None),
            (BY_ONE, BY_ONE.back(), None), (Lay(3, [(0, 1, 0, 1), (1, 1, 2, 1), (2, 1, 1, 1)]), Lay(3, [(0, 2, 0, 1), (2, 1, 2, -1)]), 1),
            (Lay(1, [(0, 1, 0, -1)]), still(1), None),
        ):
            self.assertTrue(same(either_order(one, other), told))
        self.assertEqual(either_order(one=BY_ONE, other=about), 0)

    def test_great_ones(self):
        by_five = Lay(GREAT, [(0, GREAT - 5, 5, 1), (GREAT - 5, 5, 0, 1)])
        far = Lay(GREAT, [(0, GREAT - 77, 77, 1), (GREAT - 77, 77, 0, 1)])
        late = Lay(GREAT, [(0, GREAT - 2, 0, 1), (GREAT - 2, 1, GREAT - 1, 1), (GREAT - 1, 1, GREAT - 2, 1)])
        self.assertIsNone(either_order(by_five, far))
        self.assertEqual(either_order(by_five, late), GREAT - 7)
        self.assertEqual(either_order(late, by_five), GREAT - 7)
        for name, lay in great_lays(GREAT):
            self.assertIsNone(either_order(lay, lay.then(lay)))
            self.assertIsNone(either_order(lay.back(), lay))

    def test_unlike_totals(self):
        for asked in (either_order, done):
            for one, other in ((0, 1), (3, 2), (2, 3)):
                error = refusal(asked, still(one), still(other))
                self.assertIs(type(error), NoLay)
                self.assertIsInstance(error, ValueError)
                self.assertEqual(error.part, "total")


class Done(unittest.TestCase):
    def check(self, lay, other):
        """Held against all that the other laying done any number of times comes to."""
        entire = whole(other)[1]
        goes = table_of(lay)
        powers = [table_of(still(other.spots()))]
        for _ in range(entire - 1):
            powers.append([(table_of(other)[at][0], way * table_of(other)[at][1]) for at, way in powers[-1]])
        found = [times for times in range(entire) if powers[times] == goes]
        told = done(lay, other)
        if found:
            self.assertTrue(same(told, ("times", found[0], entire)))
            return "times"
        word, spots = told
        self.assertEqual(word, "none")
        self.assertIs(type(spots), list)
        self.assertIn(len(spots), (1, 2))
        self.assertTrue(all(type(spot) is int and 0 <= spot < lay.spots() for spot in spots))
        for times in range(entire):
            self.assertFalse(all(powers[times][spot] == goes[spot] for spot in spots))
        return len(spots)

    def test_against_a_walk(self):
        rng = some("done")
        kinds = {}
        for _ in range(500):
            other = small_lay(rng, most_spots=9)
            if whole(other)[1] > 100:
                continue
            lay = small_lay(rng, most_spots=9)
            if rng.random() < 0.4 or lay.spots() != other.spots():
                lay = power(other, rng.randint(0, 12))
            kind = self.check(lay, other)
            kinds[kind] = kinds.get(kind, 0) + 1
            self.check(other.back(), other)
        self.assertTrue(all(kinds.get(kind, 0) > 10 for kind in ("times", 1, 2)))

    def test_told_ones(self):
        for lay, other, told in (
            (still(0), still(0), ("times", 0, 1)), (still(5), still(5), ("times", 0, 1)), (still(7), BY_ONE, ("times", 0, 7)),
            (BY_ONE, BY_ONE, ("times", 1, 7)), (BY_ONE.back(), BY_ONE, ("times", 6, 7)), (power(BY_ONE, 24), BY_ONE, ("times", 3, 7)),
            (Lay(1, [(0, 1, 0, -1)]), Lay(1, [(0, 1, 0, -1)]), ("times", 1, 2)), (still(1), Lay(1, [(0, 1, 0, -1)]), ("times", 0, 2)),
        ):
            self.assertTrue(same(done(lay, other), told))
        self.assertEqual(done(lay=BY_ONE, other=BY_ONE), ("times", 1, 7))

    def test_one_spot_that_no_number_leads_so(self):
        for lay, other in (
            (BY_ONE, still(7)), (Lay(1, [(0, 1, 0, -1)]), still(1)), (Lay(3, [(0, 3, 0, -1)]), still(3)),
            (Lay(4, [(0, 2, 2, 1), (2, 2, 0, 1)]), Lay(4, [(0, 1, 1, 1), (1, 1, 0, 1), (2, 1, 3, 1), (3, 1, 2, 1)])),
        ):
            self.assertEqual(self.check(lay, other), 1)

    def test_two_spots_that_no_number_leads_so_together(self):
        # Either ring alone is led so, but by an odd number the one, by an even one the other.
        changed = Lay(4, [(0, 1, 1, 1), (1, 1, 0, 1), (2, 2, 2, 1)])
        both = Lay(4, [(0, 1, 1, 1), (1, 1, 0, 1), (2, 1, 3, 1), (3, 1, 2, 1)])
        self.assertEqual(self.check(changed, both), 2)
        self.assertEqual(done(changed, both)[0], "none")
        # Each spot is led as by some number, but what isn't led so comes behind a ring's first spots.
        self.check(Lay(3, [(0, 1, 1, 1), (1, 1, 0, 1), (2, 1, 2, 1)]), Lay(3, [(0, 2, 1, 1), (2, 1, 0, 1)]))
        self.check(Lay(5, [(0, 2, 3, 1), (2, 1, 2, 1), (3, 2, 0, 1)]), Lay(5, [(0, 4, 1, 1), (4, 1, 0, 1)]))

    def test_parts_of_one_base(self):
        # Two spots go on side by side all the way, but one of them an odd number of times, the other an even one.
        both = Lay(8, [(0, 4, 4, 1), (4, 4, 0, 1)])
        for cut in (1, 2, 3):
            pieces = [(0, cut, 4, 1), (cut, 4 - cut, cut, 1), (4, cut, 0, 1), (4 + cut, 4 - cut, 4 + cut, 1)]
            self.assertEqual(self.check(Lay(8, pieces), both), 2)
            pieces = [(0, cut, 0, 1), (cut, 4 - cut, cut + 4, 1), (4, cut, 4, 1), (4 + cut, 4 - cut, cut, 1)]
            self.assertEqual(self.check(Lay(8, pieces), both), 2)
        great = Lay(GREAT, [(0, GREAT // 2, GREAT // 2, 1), (GREAT // 2, GREAT // 2, 0, 1)])
        half = [(0, 5, GREAT // 2, 1), (5, GREAT // 2 - 5, 5, 1), (GREAT // 2, 5, 0, 1)]
        told = done(Lay(GREAT, [*half, (GREAT // 2 + 5, GREAT // 2 - 5, GREAT // 2 + 5, 1)]), great)
        self.assertEqual((told[0], len(told[1])), ("none", 2))

    def test_rings_done_each_so_often(self):
        rng = some("rings apart")
        kinds = {}
        for _ in range(400):
            other = small_lay(rng, most_spots=12)
            if whole(other)[1] > 100:
                continue
            times = [rng.randint(0, 3) for _ in range(other.spots())]
            led_so = {}
            for spot in range(other.spots()):
                ring_of = {spot}
                at = other.goes(spot)[0]
                while at != spot:
                    ring_of.add(at)
                    at = other.goes(at)[0]
                to, way = spot, 1
                for _ in range(times[min(ring_of)]):
                    to, more = other.goes(to)
                    way *= more
                led_so[spot] = (to, way)
            lay = Lay(other.spots(), [(spot, 1, to, way) for spot, (to, way) in led_so.items()])
            self.assertIsNone(either_order(lay, other))
            kind = self.check(lay, other)
            kinds[kind] = kinds.get(kind, 0) + 1
        self.assertEqual(set(kinds), {"times", 2})

    def test_turned_over_on_the_way(self):
        turning = Lay(5, [(0, 4, 1, 1), (4, 1, 0, -1)])
        for times in range(12):
            self.assertEqual(done(power(turning, times), turning), ("times", times % 10, 10))
        self.assertEqual(self.check(power(BY_ONE, 2).then(Lay(7, [(0, 7, 0, -1)])), BY_ONE), 2)
        self.check(Lay(5, [(0, 5, 0, -1)]), turning)

    def test_great_ones(self):
        for name, lay in great_lays(GREAT):
            with self.subTest(name):
                entire = whole(lay)[1]
                for times, made in ((0, still(lay.spots())), (1, lay), (3, lay.then(lay).then(lay)), (-1, lay.back()), (-2, lay.back().then(lay.back()))):
                    self.assertEqual(done(made, lay), ("times", times % entire, entire))

    def test_great_numbers_of_times(self):
        by_one = Lay(GREAT, [(0, GREAT - 1, 1, 1), (GREAT - 1, 1, 0, 1)])
        for times in (1, 2, GREAT // 3, GREAT - 1):
            far = Lay(GREAT, [(0, GREAT - times, times, 1), (GREAT - times, times, 0, 1)])
            self.assertEqual(done(far, by_one), ("times", times, GREAT))
        far = Lay(GREAT, [(0, GREAT - 618, 618, 1), (GREAT - 618, 618, 0, 1)])
        self.assertEqual(done(by_one, far)[0], "none")
        self.assertEqual(done(Lay(GREAT, [(0, GREAT, 0, -1)]), by_one)[0], "none")
        two = lay_of_parts([GREAT - 7, 7], [1, 0], [1, 1])
        self.assertEqual(done(by_one, two), ("times", pow(7, -1, GREAT), GREAT))

    def test_what_is_told_is_new(self):
        lay, other = BY_ONE, still(7)
        done(lay, other)[1].clear()
        self.assertEqual(len(done(lay, other)[1]), 1)


if __name__ == "__main__":
    unittest.main()
