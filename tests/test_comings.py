import unittest

from spoolrounds.comings import comes, comes_paper, first_table, shows_comes, shows_table, table_paper, visit
from spoolrounds.errors import NoSpot
from spoolrounds.far import after, after_paper, visits
from spoolrounds.lays import Lay
from spoolrounds.papers import shows
from things import GREAT, HUGE, anything, deep, refusal, same
from walks import great_lays, great_lots, is_so, otherwise, small_lays, small_lot, some, spots_of, table_of, walked

BY_ONE = Lay(7, [(0, 6, 1, 1), (6, 1, 0, 1)])
# Two rings of two spots that change places, and a stretch that is turned about in place.
APART = Lay(9, [(0, 2, 2, 1), (2, 2, 0, 1), (4, 5, 4, -1)])
MANY_ROWS = 6000


def first_return(lay, there, spot):
    """Walked: (rounds, spot, way) of a first return to spots or to the spot itself."""
    rounds, (at, way) = 1, lay.goes(spot)
    while at not in there and at != spot:
        at, more = lay.goes(at)
        way *= more
        rounds += 1
    return (rounds, at, way)


def table_walked(lay, lot):
    """The table of first returns in its one form, spot by spot."""
    there = spots_of(lot)
    rows = []
    for spot in sorted(there):
        rounds, to, way = first_return(lay, there, spot)
        if rows:
            first, many, its, least, turned = rows[-1]
            goes_on = to == (least + many if way == 1 else least - 1)
            if first + many == spot and (its, turned) == (rounds, way) and goes_on:
                rows[-1] = (first, many + 1, rounds, min(least, to), way)
                continue
        rows.append((spot, 1, rounds, to, way))
    return rows


def in_lot(lot, spot):
    return any(first <= spot < first + many for first, many in lot)


class Tables(unittest.TestCase):
    def check(self, lay, lot):
        table = first_table(lay, lot)
        rows = table_paper(lay, lot)
        self.assertIs(type(table), list)
        self.assertIs(type(rows), list)
        self.assertIs(shows(lay, lot, rows), True)
        facts = [fact for fact, _ in rows]
        for first, many, rounds, to, way in table:
            self.assertIn((first, many, to, way, rounds, 1), facts)
        self.assertIs(shows_table(lay, lot, table, rows), True)
        self.assertLessEqual(len(table), len(lay) + 3 * len(lot) - 1 if lot else 0)
        return (table, rows)

    def test_small_ones(self):
        rng = some("tables")
        for lay in small_lays("tables", 250, most_spots=16):
            lot = small_lot(rng, lay)
            table, rows = self.check(lay, lot)
            self.assertTrue(same(table, table_walked(lay, lot)))
            self.assertEqual(first_table(lay, tuple(lot)), table)
            if rng.random() < 0.2:
                self.assertTrue(all(is_so(lay, lot, fact) for fact, _ in rows))

    def test_lots_of_none_and_of_all(self):
        for lay in [Lay(0, []), Lay(1, [(0, 1, 0, -1)]), BY_ONE, APART, *small_lays("all", 50)]:
            self.assertEqual(self.check(lay, [])[0], [])
            if lay.spots():
                table = [(first, many, 1, to, way) for first, many, to, way in lay.pieces()]
                self.assertEqual(self.check(lay, [(0, lay.spots())])[0], table)
                self.assertEqual(self.check(lay, [(spot, 1) for spot in range(lay.spots())])[0], table)

    def test_told_ones(self):
        for lay, lot, table in (
            (BY_ONE, [(2, 1)], [(2, 1, 7, 2, 1)]), (BY_ONE, [(2, 2)], [(2, 1, 1, 3, 1), (3, 1, 6, 2, 1)]),
            (BY_ONE, [(2, 1), (3, 1)], [(2, 1, 1, 3, 1), (3, 1, 6, 2, 1)]),
            (BY_ONE, [(0, 1), (5, 2)], [(0, 1, 5, 5, 1), (5, 1, 1, 6, 1), (6, 1, 1, 0, 1)]),
            (APART, [(0, 2)], [(0, 2, 2, 0, 1)]), (APART, [(0, 1), (1, 1)], [(0, 2, 2, 0, 1)]), (APART, [(1, 1)], [(1, 1, 2, 1, 1)]),
            (APART, [(4, 5)], [(4, 5, 1, 4, -1)]), (APART, [(4, 1)], [(4, 1, 2, 4, 1)]), (APART, [(6, 1)], [(6, 1, 1, 6, -1)]),
            (APART, [(4, 3)], [(4, 2, 2, 4, 1), (6, 1, 1, 6, -1)]), (APART, [(1, 2)], [(1, 2, 2, 1, 1)]),
            (APART, [(5, 1), (7, 1)], [(5, 1, 1, 7, -1), (7, 1, 1, 5, -1)]),
        ):
            self.assertTrue(same(self.check(lay, lot)[0], table))
        self.assertEqual(first_table(lay=APART, lot=[(1, 2)]), [(1, 2, 2, 1, 1)])

    def test_great_ones(self):
        for name, lay in great_lays():
            with self.subTest(name):
                for lot in great_lots(lay):
                    table, rows = self.check(lay, lot)
                    self.assertLess(len(rows), MANY_ROWS)
                    for first, many, rounds, to, way in table:
                        for spot, end in ((first, to if way == 1 else to + many - 1), (first + many - 1, to + many - 1 if way == 1 else to)):
                            self.assertEqual(after(lay, spot, rounds), (end, way))
                            self.assertTrue(in_lot(lot, end))
                        self.assertEqual(visits(lay, lot, first, rounds), 1)

    def test_told_lists_are_new(self):
        for asked in (first_table, table_paper):
            told = asked(BY_ONE, [(2, 2)])
            before = list(told)
            told.clear()
            self.assertEqual(asked(BY_ONE, [(2, 2)]), before)


class LooksAtTables(unittest.TestCase):
    LOT = [(1, 2), (3, 1), (5, 2)]

    def setUp(self):
        self.lay = Lay(8, [(0, 3, 5, 1), (3, 4, 1, -1), (7, 1, 0, 1)])
        self.table = first_table(self.lay, self.LOT)
        self.rows = table_paper(self.lay, self.LOT)

    def look(self, table, rows):
        return shows_table(self.lay, self.LOT, table, rows)

    def test_whatever_form_and_order(self):
        self.assertIs(self.look(self.table, self.rows), True)
        self.assertIs(self.look(self.table[::-1], self.rows), True)
        self.assertIs(self.look(tuple(self.table), tuple(self.rows)), True)
        lot = [(0, 4)]
        still = Lay(4, [(0, 4, 0, 1)])
        whole = [((0, 4, 0, 1, 1, 1), ("piece",))]
        parts = [*whole, ((0, 1, 0, 1, 1, 1), ("part", 0)), ((1, 3, 1, 1, 1, 1), ("part", 0))]
        for table, rows, fits in (
            ([(0, 4, 1, 0, 1)], whole, True), ([(0, 1, 1, 0, 1), (1, 3, 1, 1, 1)], parts, True),
            ([(1, 3, 1, 1, 1), (0, 1, 1, 0, 1)], parts, True), ([(0, 1, 1, 0, 1), (1, 3, 1, 1, 1)], whole, False),
            ([(0, 1, 1, 0, 1)], parts, False), ([(0, 4, 1, 0, 1), (0, 1, 1, 0, 1)], parts, False),
            ([(0, 4, 1, 0, 1), (0, 4, 1, 0, 1)], parts, False), ([(0, 1, 1, 0, 1), (0, 4, 1, 0, 1)], parts, False),
            ([(1, 3, 1, 1, 1)], parts, False), ([], parts, False),
        ):
            self.assertIs(shows_table(still, lot, table, rows), fits)
            self.assertIs(shows_table(still, [(0, 1), (1, 2), (3, 1)], table, rows), fits)
        self.assertIs(shows_table(lay=still, lot=lot, table=[(0, 4, 1, 0, 1)], rows=whole), True)

    def test_first_returns_alone(self):
        # Twice round is no first return, and what ends outside of the lot is none.
        twice = [((0, 2, 2, 1, 1, 1), ("piece",)), ((2, 2, 0, 1, 1, 0), ("piece",)), ((0, 2, 0, 1, 2, 1), ("then", 0, 1))]
        twice += [((0, 2, 0, 1, 4, 2), ("again", 2, 2))]
        for table, fits in (([(0, 2, 2, 0, 1)], True), ([(0, 2, 4, 0, 1)], False), ([(0, 2, 1, 2, 1)], False)):
            self.assertIs(shows_table(APART, [(0, 2)], table, twice), fits)

    def test_more_than_the_lot(self):
        rows = [((4, 5, 4, -1, 1, 1), ("piece",))]
        self.assertIs(shows_table(APART, [(4, 5)], [(4, 5, 1, 4, -1)], rows), True)
        rows = [((4, 1, 8, -1, 1, 1), ("piece",)), ((8, 1, 4, -1, 1, 1), ("piece",))]
        self.assertIs(shows_table(APART, [(4, 1), (8, 1)], [(4, 1, 1, 8, -1), (8, 1, 1, 4, -1)], rows), True)
        self.assertIs(shows_table(APART, [(4, 1), (8, 1)], [(4, 1, 1, 8, -1)], rows), False)
        self.assertIs(shows_table(APART, [], [(0, 2, 1, 2, 1)], [((0, 2, 2, 1, 1, 0), ("piece",))]), False)
        self.assertIs(shows_table(APART, [], [], [((0, 2, 2, 1, 1, 0), ("piece",))]), True)

    def test_one_thing_otherwise(self):
        for at, row in enumerate(self.table):
            for place in range(5):
                for number in (row[place] + 1, row[place] - 1, -row[place] - 1, HUGE, True, None, [row[place]]):
                    other = row[:place] + (number,) + row[place + 1:]
                    self.assertIs(self.look([*self.table[:at], other, *self.table[at + 1:]], self.rows), False)
            self.assertIs(self.look(self.table[:at] + self.table[at + 1:], self.rows), False)
            self.assertIs(self.look([*self.table, row], self.rows), False)
            self.assertIs(self.look([*self.table[:at], list(row), *self.table[at + 1:]], self.rows), False)
            self.assertIs(self.look([*self.table[:at], (*row, 1), *self.table[at + 1:]], self.rows), False)
        for rows in otherwise(self.rows):
            if self.look(self.table, rows):
                self.assertTrue(shows(self.lay, self.LOT, rows))
                self.assertTrue(all(is_so(self.lay, self.LOT, fact) for fact, _ in rows))

    def test_another_laying_or_lot(self):
        self.assertIs(shows_table(self.lay, [(1, 3), (5, 2)], self.table, self.rows), True)
        self.assertIs(shows_table(self.lay, [(1, 3)], self.table, self.rows), False)
        self.assertIs(shows_table(self.lay.back(), self.LOT, self.table, self.rows), False)
        self.assertIs(self.look(self.table, self.rows[:-1]), False)
        self.assertIs(self.look(self.table, []), False)

    def test_of_anything(self):
        for thing in [*anything(), deep(20000)]:
            self.assertIs(self.look(thing, self.rows), False)
            self.assertIs(self.look(self.table, thing), False)
            self.assertIs(self.look([*self.table, thing], self.rows), False)
            self.assertIs(self.look(self.table, [*self.rows, thing]), False)
            self.assertIs(self.look(thing, thing), False)
            empty = isinstance(thing, (list, tuple)) and len(thing) == 0
            self.assertIs(shows_table(self.lay, [], thing, thing), empty)
            for at, row in enumerate(self.table):
                for place in range(5):
                    if not (type(thing) is int and thing == row[place]):
                        other = row[:place] + (thing,) + row[place + 1:]
                        self.assertIs(self.look([*self.table[:at], other, *self.table[at + 1:]], self.rows), False)


class Comes(unittest.TestCase):
    def check(self, lay, lot, spot):
        told = comes(lay, lot, spot)
        rows = comes_paper(lay, lot, spot)
        self.assertIs(type(rows), list)
        self.assertIs(shows(lay, lot, rows), True)
        first, many, to, way, rounds, often = rows[-1][0]
        self.assertEqual((first, many), (spot, 1))
        if told is None:
            self.assertEqual((to, often), (spot, 0))
        else:
            self.assertTrue(same(told, (rounds, to, way)))
            self.assertTrue(in_lot(lot, to))
            self.assertEqual(often, 1 if in_lot(lot, spot) else 0)
        self.assertIs(shows_comes(lay, lot, spot, told, rows), True)
        return told

    def test_small_ones(self):
        rng = some("comes")
        for lay in small_lays("comes", 200, most_spots=16):
            lot = small_lot(rng, lay)
            for spot in range(lay.spots()):
                rounds, to, way = first_return(lay, spots_of(lot), spot)
                told = (rounds, to, way) if to in spots_of(lot) else None
                self.assertTrue(same(self.check(lay, lot, spot), told))
                self.assertEqual(comes(lay, tuple(lot), spot), told)

    def test_told_ones(self):
        for lay, lot, spot, told in (
            (BY_ONE, [(2, 2)], 2, (1, 3, 1)), (BY_ONE, [(2, 2)], 3, (6, 2, 1)), (BY_ONE, [(2, 2)], 4, (5, 2, 1)),
            (BY_ONE, [(3, 1)], 3, (7, 3, 1)), (BY_ONE, [], 3, None), (BY_ONE, [(0, 7)], 6, (1, 0, 1)),
            (APART, [(2, 7)], 0, (1, 2, 1)), (APART, [(4, 5)], 0, None), (APART, [(0, 1)], 1, None), (APART, [(0, 1)], 2, (1, 0, 1)),
            (APART, [(4, 1)], 8, (1, 4, -1)), (APART, [(4, 1)], 4, (2, 4, 1)), (APART, [(6, 1)], 6, (1, 6, -1)),
            (APART, [(6, 1)], 5, None), (Lay(1, [(0, 1, 0, -1)]), [(0, 1)], 0, (1, 0, -1)), (Lay(1, [(0, 1, 0, -1)]), [], 0, None),
        ):
            self.assertTrue(same(self.check(lay, lot, spot), told))
        self.assertEqual(comes(lay=BY_ONE, lot=[(2, 2)], spot=4), (5, 2, 1))

    def test_great_ones(self):
        for name, lay in great_lays():
            with self.subTest(name):
                for lot in great_lots(lay):
                    for spot in (0, 1, 5 * (lay.spots() // 16), lay.spots() // 3, lay.spots() - 1):
                        told = self.check(lay, lot, spot)
                        self.assertLess(len(comes_paper(lay, lot, spot)), MANY_ROWS)
                        if told is not None:
                            self.assertEqual(after(lay, spot, told[0]), told[1:])
                            self.assertEqual(visits(lay, lot, spot, told[0]), 1 if in_lot(lot, spot) else 0)

    def test_told_lists_are_new(self):
        comes_paper(BY_ONE, [(2, 2)], 4).clear()
        self.assertNotEqual(comes_paper(BY_ONE, [(2, 2)], 4), [])


class LooksAtComes(unittest.TestCase):
    def test_just_that(self):
        for lay, lot, spot in ((BY_ONE, [(2, 2)], 5), (BY_ONE, [(2, 2)], 3), (APART, [(4, 1)], 8), (APART, [(6, 1)], 6)):
            told = comes(lay, lot, spot)
            rows = comes_paper(lay, lot, spot)
            self.assertIs(shows_comes(lay=lay, lot=lot, spot=spot, told=told, rows=rows), True)
            self.assertIs(shows_comes(lay, tuple(lot), spot, told, tuple(rows)), True)
            for place in range(3):
                for number in (told[place] + 1, told[place] - 1, -told[place], HUGE, None, True, [told[place]]):
                    if not (type(number) is int and number == told[place]):
                        other = told[:place] + (number,) + told[place + 1:]
                        self.assertIs(shows_comes(lay, lot, spot, other, rows), False)
            for other in (None, list(told), (*told, 0), told[:2]):
                self.assertIs(shows_comes(lay, lot, spot, other, rows), False)
            self.assertIs(shows_comes(lay, lot, (spot + 1) % lay.spots(), told, rows), False)
            self.assertIs(shows_comes(lay, [], spot, told, rows), False)
            self.assertIs(shows_comes(lay, lot, spot, told, []), False)
            self.assertIs(shows_comes(lay, lot, spot, told, rows[:-1]), False)

    def test_the_first_time_alone(self):
        lot = [(2, 2)]
        for spot, rounds, fits in ((2, 1, True), (2, 7, False), (2, 8, False), (3, 6, True), (4, 5, True), (4, 6, False), (4, 4, False)):
            rows = after_paper(BY_ONE, lot, spot, rounds)
            told = (rounds, *after(BY_ONE, spot, rounds))
            self.assertIs(shows_comes(BY_ONE, lot, spot, told, rows), fits)

    def test_never(self):
        for lay, lot, spot in ((APART, [(6, 1)], 5), (APART, [(4, 5)], 0), (BY_ONE, [], 3), (APART, [(7, 1)], 6)):
            length = 1
            while walked(lay, spot, length)[0] != spot:
                length += 1
            rows = comes_paper(lay, lot, spot)
            self.assertIs(shows_comes(lay, lot, spot, None, rows), True)
            for other in ((length, spot, 1), (length, spot, -1), (), False, 0, [None]):
                self.assertIs(shows_comes(lay, lot, spot, other, rows), False)
            for times in (1, 2, 5):
                self.assertIs(shows_comes(lay, lot, spot, None, after_paper(lay, lot, spot, times * length)), True)
            if length > 1:
                self.assertIs(shows_comes(lay, lot, spot, None, after_paper(lay, lot, spot, length - 1)), False)
            self.assertIs(shows_comes(lay, lot, spot, None, []), False)
        # One that is in the lot, or comes to it, comes back to itself as well.
        self.assertIs(shows_comes(BY_ONE, [(3, 1)], 3, None, after_paper(BY_ONE, [(3, 1)], 3, 7)), False)
        self.assertIs(shows_comes(BY_ONE, [(3, 1)], 2, None, after_paper(BY_ONE, [(3, 1)], 2, 7)), False)

    def test_one_thing_otherwise(self):
        lay = Lay(8, [(0, 3, 5, 1), (3, 4, 1, -1), (7, 1, 0, 1)])
        for lot in ([(6, 1)], [(5, 1)], []):
            told = comes(lay, lot, 7)
            for rows in otherwise(comes_paper(lay, lot, 7)):
                if shows_comes(lay, lot, 7, told, rows):
                    self.assertTrue(shows(lay, lot, rows))
                    self.assertTrue(all(is_so(lay, lot, fact) for fact, _ in rows))

    def test_of_anything(self):
        rows = comes_paper(BY_ONE, [(2, 2)], 5)
        never = comes_paper(APART, [(6, 1)], 5)
        for thing in [*anything(), deep(20000)]:
            self.assertIs(shows_comes(BY_ONE, [(2, 2)], 5, thing, rows), False)
            self.assertIs(shows_comes(APART, [(6, 1)], 5, thing, never), thing is None)
            for told in ((4, 2, 1), None, thing):
                for wrong in (thing, [*rows, thing], [thing, *rows]):
                    self.assertIs(shows_comes(BY_ONE, [(2, 2)], 5, told, wrong), False)
            for at in range(3):
                if not (type(thing) is int and thing == (4, 2, 1)[at]):
                    told = (4, 2, 1)[:at] + (thing,) + (4, 2, 1)[at + 1:]
                    self.assertIs(shows_comes(BY_ONE, [(2, 2)], 5, told, rows), False)


class Visit(unittest.TestCase):
    def test_against_a_walk(self):
        rng = some("visit")
        for lay in small_lays("visit", 120):
            lot = small_lot(rng, lay)
            spot = rng.randrange(lay.spots())
            moments, at, goes = [], spot, table_of(lay)
            for moment in range(200):
                if at in spots_of(lot):
                    moments.append(moment)
                at = goes[at][0]
            for k in range(1, 15):
                told = moments[k - 1] if moments else None
                if not moments or len(moments) >= k:
                    self.assertTrue(same(visit(lay, lot, spot, k), told))
                    self.assertEqual(visit(lay, tuple(lot), spot, k), told)

    def test_first_and_later_ones(self):
        for k, moment in ((1, 0), (2, 1), (3, 7), (4, 8), (5, 14)):
            self.assertEqual(visit(BY_ONE, [(2, 2)], 2, k), moment)
        for k, moment in ((1, 5), (2, 6), (3, 12)):
            self.assertEqual(visit(lay=BY_ONE, lot=[(2, 2)], spot=4, k=k), moment)
        self.assertEqual(visit(BY_ONE, [(0, 7)], 3, GREAT), GREAT - 1)
        self.assertEqual(visit(BY_ONE, [(3, 1)], 3, GREAT), 7 * (GREAT - 1))

    def test_no_such_time(self):
        self.assertIsNone(visit(BY_ONE, [(2, 2)], 2, 0))

    def test_never(self):
        for lay, lot, spot in ((BY_ONE, [], 3), (APART, [(4, 5)], 1), (APART, [(6, 1)], 4), (Lay(1, [(0, 1, 0, -1)]), [], 0)):
            for k in (1, 2, GREAT):
                self.assertIsNone(visit(lay, lot, spot, k))

    def test_great_ones(self):
        for name, lay in great_lays():
            with self.subTest(name):
                for lot in great_lots(lay):
                    spot = lay.spots() // 3
                    for k in (1, 2, 12345, GREAT - 1, GREAT):
                        moment = visit(lay, lot, spot, k)
                        if moment is None:
                            self.assertEqual(visits(lay, lot, spot, 2 * GREAT), 0)
                        else:
                            self.assertEqual(visits(lay, lot, spot, moment), k - 1)
                            self.assertEqual(visits(lay, lot, spot, moment + 1), k)
                            self.assertTrue(in_lot(lot, after(lay, spot, moment)[0]))


class NoSpots(unittest.TestCase):
    def test_no_spot(self):
        for lay in (BY_ONE, Lay(0, []), Lay(2 * GREAT, [(0, 2 * GREAT, 0, -1)])):
            for thing in [*anything(), lay.spots(), lay.spots() + 1, -1]:
                if type(thing) is int and 0 <= thing < lay.spots():
                    continue
                for error in (
                    refusal(comes, lay, [], thing), refusal(comes_paper, lay, [], thing), refusal(visit, lay, [], thing, 1),
                    refusal(shows_comes, lay, [], thing, None, []), refusal(shows_comes, lay, [], thing, [[]], None),
                    refusal(visit, lay, [], thing, GREAT),
                ):
                    self.assertIs(type(error), NoSpot)
                    self.assertIsInstance(error, IndexError)
                    self.assertTrue(same(error.asked, thing))
        self.assertIs(type(refusal(comes, BY_ONE, [], deep(20000))), NoSpot)


if __name__ == "__main__":
    unittest.main()
