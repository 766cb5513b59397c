import unittest

from spoolrounds.errors import NoSpot
from spoolrounds.far import after, after_paper, shows_after, visits
from spoolrounds.lays import Lay
from spoolrounds.papers import shows
from things import GREAT, HUGE, anything, deep, refusal, same
from walks import great_lays, great_lots, is_so, otherwise, seen, small_lays, small_lot, some, walked

BY_ONE = Lay(7, [(0, 6, 1, 1), (6, 1, 0, 1)])
FAR = (1, 2, 3, 1000, 10 ** 9 + 7, GREAT - 1, GREAT)
# More rows than any of the papers of great layings has.
MANY_ROWS = 8000


class After(unittest.TestCase):
    def test_against_a_walk(self):
        rng = some("after")
        for lay in small_lays("after", 150):
            for _ in range(6):
                spot, rounds = rng.randrange(lay.spots()), rng.choice((0, 1, 2, 3, rng.randrange(20), rng.randrange(100)))
                told = after(lay, spot, rounds)
                self.assertTrue(same(told, walked(lay, spot, rounds)))
                to, way = told
                self.assertTrue(same(after(lay, to, -rounds), (spot, way)))

    def test_no_rounds_one_and_one_back(self):
        for name, lay in great_lays():
            with self.subTest(name):
                for spot in (0, 1, lay.spots() // 2, lay.spots() - 1):
                    self.assertTrue(same(after(lay, spot, 0), (spot, 1)))
                    self.assertTrue(same(after(lay, spot, 1), lay.goes(spot)))
                    self.assertTrue(same(after(lay, spot, -1), lay.back().goes(spot)))
        self.assertEqual(after(lay=BY_ONE, spot=2, rounds=3), (5, 1))

    def test_great_rounds_go_on(self):
        for name, lay in great_lays():
            with self.subTest(name):
                for spot in (0, lay.spots() // 3, lay.spots() - 1):
                    there, way = after(lay, spot, GREAT)
                    on, more = after(lay, there, -GREAT + 5)
                    self.assertEqual((on, way * more), after(lay, spot, 5))
                    self.assertEqual(after(lay, spot, 5), walked(lay, spot, 5))
                    back, turned = after(lay, spot, -GREAT)
                    self.assertEqual(after(lay, back, GREAT), (spot, turned))

    def test_known_ones(self):
        most = 2 * GREAT
        by_one = Lay(most, [(0, most - 1, 1, 1), (most - 1, 1, 0, 1)])
        turning = Lay(most, [(0, most - 1, 1, 1), (most - 1, 1, 0, -1)])
        by_part = Lay(most, [(0, most - 618, 618, 1), (most - 618, 618, 0, 1)])
        about = Lay(most, [(0, most, 0, -1)])
        for rounds in (*FAR, *[-rounds for rounds in FAR], 0):
            for spot in (0, 5, GREAT, most - 1):
                self.assertEqual(after(by_one, spot, rounds), ((spot + rounds) % most, 1))
                self.assertEqual(after(turning, spot, rounds), ((spot + rounds) % most, (-1) ** ((spot + rounds) // most)))
                self.assertEqual(after(by_part, spot, rounds), ((spot + 618 * rounds) % most, 1))
                self.assertEqual(after(about, spot, rounds), (most - 1 - spot, -1) if rounds % 2 else (spot, 1))

    def test_one_spot(self):
        for rounds in (0, 1, -1, 2, GREAT, -GREAT, GREAT - 1, 1 - GREAT):
            self.assertEqual(after(Lay(1, [(0, 1, 0, 1)]), 0, rounds), (0, 1))
            self.assertEqual(after(Lay(1, [(0, 1, 0, -1)]), 0, rounds), (0, -1 if rounds % 2 else 1))

    def test_beyond(self):
        self.assertEqual(after(BY_ONE, 0, 7 * HUGE + 3), (3, 1))
        self.assertEqual(after(BY_ONE, 0, -7 * HUGE - 3), (4, 1))
        self.assertEqual(visits(BY_ONE, [(0, 2)], 0, 7 * HUGE + 1), 2 * HUGE + 1)


class Visits(unittest.TestCase):
    def test_against_a_walk(self):
        rng = some("visits")
        for lay in small_lays("visits", 150):
            lot = small_lot(rng, lay)
            for _ in range(5):
                spot, rounds = rng.randrange(lay.spots()), rng.choice((0, 1, 2, rng.randrange(20), rng.randrange(100)))
                self.assertTrue(same(visits(lay, lot, spot, rounds), seen(lay, lot, spot, rounds)))
                self.assertEqual(visits(lay, tuple(lot), spot, rounds), seen(lay, lot, spot, rounds))

    def test_moments_from_the_first_on(self):
        for rounds, many in ((0, 0), (1, 1), (2, 2), (3, 2), (7, 2), (8, 3), (14, 4)):
            self.assertEqual(visits(BY_ONE, [(2, 2)], 2, rounds), many)
            self.assertEqual(visits(lay=BY_ONE, lot=[(2, 1), (3, 1)], spot=2, rounds=rounds), many)
        self.assertEqual([visits(BY_ONE, [(2, 1)], 1, rounds) for rounds in range(4)], [0, 0, 1, 1])

    def test_none_and_all(self):
        for name, lay in great_lays():
            with self.subTest(name):
                for rounds in (0, *FAR):
                    self.assertEqual(visits(lay, [], 5, rounds), 0)
                    self.assertEqual(visits(lay, [(0, lay.spots())], 5, rounds), rounds)

    def test_great_rounds_add_up(self):
        for name, lay in great_lays():
            with self.subTest(name):
                for lot in great_lots(lay)[1:4]:
                    spot = lay.spots() // 3
                    there = after(lay, spot, GREAT - 5)[0]
                    ahead = visits(lay, lot, spot, GREAT - 5)
                    self.assertEqual(visits(lay, lot, spot, GREAT), ahead + seen_great(lay, lot, there, 5))

    def test_known_ones(self):
        most = 2 * GREAT
        by_one = Lay(most, [(0, most - 1, 1, 1), (most - 1, 1, 0, 1)])
        lot = [(10, 5), (GREAT, 7), (GREAT + 7, 1)]
        for rounds, many in ((GREAT, 5), (GREAT + 1, 6), (GREAT + 4, 9), (10, 0), (11, 1), (most, 13), (most + 11, 14)):
            self.assertEqual(visits(by_one, lot, 0, rounds), many)
        self.assertEqual(visits(Lay(most, [(0, most, 0, -1)]), [(0, GREAT)], 5, GREAT - 1), GREAT // 2)

    def test_rounds_below_nought(self):
        self.assertEqual(visits(BY_ONE, [(0, 7)], 0, -1), 0)


def seen_great(lay, lot, spot, rounds):
    many = 0
    for _ in range(rounds):
        many += any(first <= spot < first + more for first, more in lot)
        spot = lay.goes(spot)[0]
    return many


class Papers(unittest.TestCase):
    def check(self, lay, lot, spot, rounds):
        rows = after_paper(lay, lot, spot, rounds)
        self.assertIs(type(rows), list)
        self.assertIs(shows(lay, lot, rows), True)
        told = (*after(lay, spot, rounds), visits(lay, lot, spot, rounds))
        self.assertTrue(same(rows[-1][0], (spot, 1, told[0], told[1], rounds, told[2])))
        self.assertIs(shows_after(lay, lot, spot, rounds, told, rows), True)
        return rows

    def test_small_ones(self):
        rng = some("far papers")
        for lay in small_lays("far papers", 120):
            lot = small_lot(rng, lay)
            for rounds in (1, 2, rng.randint(1, 9), rng.randint(1, 60)):
                for fact, _ in self.check(lay, lot, rng.randrange(lay.spots()), rounds):
                    self.assertTrue(is_so(lay, lot, fact))

    def test_great_ones(self):
        for name, lay in great_lays():
            with self.subTest(name):
                for lot in great_lots(lay):
                    for spot, rounds in ((0, GREAT), (lay.spots() - 1, GREAT - 1), (lay.spots() // 3, 10 ** 9 + 7), (1, 1)):
                        self.assertLess(len(self.check(lay, lot, spot, rounds)), MANY_ROWS)

    def test_no_rows_that_nothing_rests_on(self):
        for name, lay in great_lays()[:12]:
            with self.subTest(name):
                rows = after_paper(lay, great_lots(lay)[3], 0, GREAT)
                named = {k for _, rule in rows for k in (rule[1:2] if rule[0] == "again" else rule[1:])}
                self.assertEqual(named, set(range(len(rows) - 1)))

    def test_tuples_do(self):
        rows = after_paper(BY_ONE, ((2, 3),), 1, 20)
        self.assertEqual(rows, after_paper(lay=BY_ONE, lot=[(2, 3)], spot=1, rounds=20))
        self.assertIs(shows_after(BY_ONE, ((2, 3),), 1, 20, (0, 1, 9), tuple(rows)), True)
        self.assertIs(shows_after(lay=BY_ONE, lot=[(2, 3)], spot=1, rounds=20, told=(0, 1, 9), rows=rows), True)

    def test_rounds_below_one(self):
        for rounds in (0, -1):
            self.assertEqual(after_paper(BY_ONE, [], 0, rounds), [])

    def test_told_lists_are_new(self):
        after_paper(BY_ONE, [(1, 1)], 0, 5).clear()
        self.assertNotEqual(after_paper(BY_ONE, [(1, 1)], 0, 5), [])


class Looks(unittest.TestCase):
    LOT = [(2, 3)]

    def setUp(self):
        self.rows = after_paper(BY_ONE, self.LOT, 1, 20)
        self.told = (0, 1, 9)

    def look(self, told, rows, spot=1, rounds=20):
        return shows_after(BY_ONE, self.LOT, spot, rounds, told, rows)

    def test_just_that(self):
        self.assertIs(self.look(self.told, self.rows), True)
        for told in ((1, 1, 9), (0, -1, 9), (0, 1, 8), (0, 1, 10), (7, 1, 9), (-7, 1, 9), (0, 1, HUGE)):
            self.assertIs(self.look(told, self.rows), False)
        for spot in (0, 2, 6):
            self.assertIs(self.look(self.told, self.rows, spot=spot), False)
        for rounds in (19, 21, 0, 1, -20, 13, 27, GREAT):
            self.assertIs(self.look(self.told, self.rows, rounds=rounds), False)

    def test_another_paper(self):
        self.assertIs(self.look(self.told, []), False)
        self.assertIs(self.look(self.told, self.rows[:-1]), False)
        self.assertIs(self.look(self.told, [*self.rows, self.rows[0]]), False)
        self.assertIs(self.look(self.told, [*self.rows, self.rows[-1]]), True)
        again = [*self.rows, (self.rows[-1][0], ("part", len(self.rows) - 1))]
        self.assertIs(self.look(self.told, again), True)
        other = Lay(7, [(0, 7, 0, -1)])
        self.assertIs(shows_after(other, self.LOT, 1, 20, self.told, self.rows), False)
        self.assertIs(shows_after(BY_ONE, [], 1, 20, self.told, self.rows), False)

    def test_a_stretch_is_no_spot_alone(self):
        whole = [((0, 6, 1, 1, 1, 0), ("piece",))]
        self.assertIs(shows(BY_ONE, [], whole), True)
        self.assertIs(shows_after(BY_ONE, [], 0, 1, (1, 1, 0), whole), False)
        self.assertIs(shows_after(BY_ONE, [], 0, 1, (1, 1, 0), [*whole, ((0, 1, 1, 1, 1, 0), ("part", 0))]), True)

    def test_one_thing_otherwise(self):
        for rows in otherwise(self.rows):
            if self.look(self.told, rows):
                self.assertTrue(shows(BY_ONE, self.LOT, rows))
                self.assertTrue(all(is_so(BY_ONE, self.LOT, fact) for fact, _ in rows))

    def test_of_anything(self):
        for thing in [*anything(), deep(20000)]:
            self.assertIs(self.look(thing, self.rows), False)
            self.assertIs(self.look(self.told, thing), False)
            self.assertIs(self.look(self.told, [*self.rows, thing]), False)
            self.assertIs(self.look(self.told, [thing, *self.rows]), False)
            for at in range(3):
                if not (type(thing) is int and thing == self.told[at]):
                    self.assertIs(self.look(self.told[:at] + (thing,) + self.told[at + 1:], self.rows), False)
        self.assertIs(self.look(list(self.told), self.rows), False)
        self.assertIs(self.look((*self.told, 0), self.rows), False)
        self.assertIs(self.look((0, True, 9), self.rows), False)
        self.assertIs(self.look((False, 1, 9), self.rows), False)


class NoSpots(unittest.TestCase):
    def test_no_spot(self):
        for lay in (BY_ONE, Lay(0, []), Lay(2 * GREAT, [(0, 2 * GREAT, 0, -1)])):
            for thing in [*anything(), lay.spots(), lay.spots() + 1, -1]:
                if type(thing) is int and 0 <= thing < lay.spots():
                    continue
                for error in (
                    refusal(after, lay, thing, 5), refusal(after, lay, thing, 0), refusal(after, lay, thing, -GREAT),
                    refusal(visits, lay, [], thing, 5), refusal(visits, lay, [], thing, 0), refusal(after_paper, lay, [], thing, 5),
                    refusal(after_paper, lay, [], thing, 0), refusal(shows_after, lay, [], thing, 5, (0, 1, 0), []),
                    refusal(shows_after, lay, [], thing, 5, None, None), refusal(shows_after, lay, [], thing, 5, [[]], deep(9)),
                ):
                    self.assertIs(type(error), NoSpot)
                    self.assertIsInstance(error, IndexError)
                    self.assertTrue(same(error.asked, thing))
        self.assertIs(type(refusal(after, BY_ONE, deep(20000), 1)), NoSpot)

    def test_what_was_refused_is_kept(self):
        asked = [[1]]
        error = refusal(after, BY_ONE, asked, 5)
        asked[0].append(2)
        self.assertEqual(error.asked, [[1]])


if __name__ == "__main__":
    unittest.main()
