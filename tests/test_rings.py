import math
import unittest

from spoolrounds.errors import NoSpot
from spoolrounds.far import after
from spoolrounds.lays import Lay
from spoolrounds.papers import is_lot, shows
from spoolrounds.rings import ring, rings, rings_paper, shows_rings, whole
from things import GREAT, HUGE, anything, deep, refusal, same
from walks import great_lays, is_so, otherwise, small_lays, some, table_of

BY_ONE = Lay(7, [(0, 6, 1, 1), (6, 1, 0, 1)])
# Spots 0 to 3 change places, 4 to 8 are turned about in place, 9 stays, 10 to 13 come back turned about behind two rounds.
APART = Lay(14, [(0, 2, 2, 1), (2, 2, 0, 1), (4, 5, 4, -1), (9, 1, 9, 1), (10, 2, 12, 1), (12, 2, 10, -1)])
MANY_ROWS = 12000


def rings_walked(lay):
    goes = table_of(lay)
    found = {}
    known = set()
    for spot in range(lay.spots()):
        if spot not in known:
            at, way, length = spot, 1, 0
            while length == 0 or at != spot:
                known.add(at)
                at, more = goes[at]
                way *= more
                length += 1
            found[length, way] = found.get((length, way), 0) + 1
    return [(*key, found[key]) for key in sorted(found)]


class Ring(unittest.TestCase):
    def test_against_a_walk(self):
        for lay in small_lays("ring", 200):
            goes = table_of(lay)
            for spot in range(lay.spots()):
                at, way = goes[spot]
                length = 1
                while at != spot:
                    at, way = goes[at][0], way * goes[at][1]
                    length += 1
                self.assertTrue(same(ring(lay, spot), (length, way)))

    def test_told_ones(self):
        for spot, told in ((0, (2, 1)), (3, (2, 1)), (4, (2, 1)), (6, (1, -1)), (9, (1, 1)), (10, (4, 1)), (13, (4, 1))):
            self.assertTrue(same(ring(APART, spot), told))
        self.assertEqual(ring(lay=BY_ONE, spot=6), (7, 1))
        self.assertEqual(ring(Lay(1, [(0, 1, 0, -1)]), 0), (1, -1))

    def test_great_ones(self):
        for name, lay in great_lays():
            with self.subTest(name):
                for spot in (0, 1, lay.spots() // 3, lay.spots() - 1):
                    length, way = ring(lay, spot)
                    self.assertEqual(after(lay, spot, length), (spot, way))
                    # All spots on the way have the same ring.
                    self.assertEqual(ring(lay, after(lay, spot, GREAT)[0]), (length, way))
                    for divisor in (2, 3, 5, 7):
                        if length % divisor == 0:
                            self.assertNotEqual(after(lay, spot, length // divisor)[0], spot)
        most = 2 * GREAT
        self.assertEqual(ring(Lay(most, [(0, most - 1, 1, 1), (most - 1, 1, 0, -1)]), 5), (most, -1))
        self.assertEqual(ring(Lay(most, [(0, most - 12, 12, 1), (most - 12, 12, 0, 1)]), 5), (most // math.gcd(12, most), 1))

    def test_no_spot(self):
        for lay in (BY_ONE, Lay(0, [])):
            for thing in [*anything(), lay.spots(), -1]:
                if not (type(thing) is int and 0 <= thing < lay.spots()):
                    error = refusal(ring, lay, thing)
                    self.assertIs(type(error), NoSpot)
                    self.assertTrue(same(error.asked, thing))
        self.assertIs(type(refusal(ring, BY_ONE, deep(20000))), NoSpot)


class Rings(unittest.TestCase):
    def test_against_a_walk(self):
        for lay in [Lay(0, []), *small_lays("rings", 400, most_spots=20, most_pieces=8)]:
            told = rings_walked(lay)
            self.assertTrue(same(rings(lay), told))
            lengths = [length for length, _, _ in told]
            twice = [length if way == 1 else 2 * length for length, way, _ in told]
            self.assertTrue(same(whole(lay), (math.lcm(*lengths), math.lcm(*twice))))

    def test_told_ones(self):
        for lay, told, all_of_it in (
            (Lay(0, []), [], (1, 1)), (Lay(1, [(0, 1, 0, 1)]), [(1, 1, 1)], (1, 1)), (Lay(1, [(0, 1, 0, -1)]), [(1, -1, 1)], (1, 2)),
            (Lay(5, [(0, 5, 0, 1)]), [(1, 1, 5)], (1, 1)), (Lay(5, [(0, 5, 0, -1)]), [(1, -1, 1), (2, 1, 2)], (2, 2)),
            (Lay(6, [(0, 6, 0, -1)]), [(2, 1, 3)], (2, 2)), (BY_ONE, [(7, 1, 1)], (7, 7)),
            (APART, [(1, -1, 1), (1, 1, 1), (2, 1, 4), (4, 1, 1)], (4, 4)),
            (Lay(3, [(0, 2, 1, 1), (2, 1, 0, -1)]), [(3, -1, 1)], (3, 6)),
            (Lay(5, [(0, 2, 1, 1), (2, 1, 0, -1), (3, 1, 4, 1), (4, 1, 3, 1)]), [(2, 1, 1), (3, -1, 1)], (6, 6)),
        ):
            self.assertTrue(same(rings(lay), told))
            self.assertTrue(same(whole(lay), all_of_it))
        self.assertEqual((rings(lay=BY_ONE), whole(lay=BY_ONE)), ([(7, 1, 1)], (7, 7)))

    def test_great_ones(self):
        for name, lay in great_lays():
            with self.subTest(name):
                told = rings(lay)
                self.assertEqual(sum(length * many for length, _, many in told), lay.spots())
                self.assertEqual(told, sorted(told))
                spots, entire = whole(lay)
                self.assertEqual(spots, math.lcm(*[length for length, _, _ in told]))
                self.assertIn(entire, (spots, 2 * spots))
                for spot in (0, lay.spots() // 3, lay.spots() // 2, lay.spots() - 1):
                    length, way = ring(lay, spot)
                    self.assertIn((length, way), [row[:2] for row in told])
                    self.assertEqual(after(lay, spot, spots)[0], spot)
                    self.assertEqual(after(lay, spot, entire), (spot, 1))
        most = 2 * GREAT
        self.assertEqual(rings(Lay(most, [(0, most, 0, -1)])), [(2, 1, GREAT)])
        self.assertEqual(rings(Lay(most - 1, [(0, most - 1, 0, -1)])), [(1, -1, 1), (2, 1, GREAT - 1)])
        self.assertEqual(rings(Lay(most, [(0, most - 12, 12, 1), (most - 12, 12, 0, 1)])), [(most // 4, 1, 4)])

    def test_backwards_and_doubled(self):
        for lay in small_lays("doubled rings", 100):
            self.assertEqual(rings(lay.back()), rings(lay))
            # A ring of way 1 is there twice, one of way -1 as one of twice the length.
            found = {}
            for length, way, many in rings(lay):
                key, more = ((length, 1), 2 * many) if way == 1 else ((2 * length, 1), many)
                found[key] = found.get(key, 0) + more
            self.assertEqual(rings(lay.doubled()), [(*key, found[key]) for key in sorted(found)])

    def test_told_lists_are_new(self):
        rings(BY_ONE).clear()
        self.assertEqual(rings(BY_ONE), [(7, 1, 1)])


class Papers(unittest.TestCase):
    def check(self, lay):
        told = rings_paper(lay)
        self.assertIs(type(told), tuple)
        bases, rows = told
        self.assertIs(type(bases), list)
        self.assertIs(type(rows), list)
        lot = [base[:2] for base in bases]
        self.assertIs(is_lot(lay, lot), True)
        self.assertIs(shows(lay, lot, rows), True)
        facts = [fact for fact, _ in rows]
        for base in bases:
            self.assertIn(base, facts)
            self.assertEqual((base[0], base[5]), (base[2], 1))
        self.assertEqual(sum(many * rounds for _, many, _, _, rounds, _ in bases), lay.spots())
        self.assertIs(shows_rings(lay, rings(lay), bases, rows), True)
        return (bases, rows)

    def test_small_ones(self):
        for lay in [Lay(0, []), Lay(1, [(0, 1, 0, -1)]), BY_ONE, APART, *small_lays("ring papers", 200, most_spots=16)]:
            bases, rows = self.check(lay)
            for fact in bases:
                self.assertTrue(is_so(lay, [base[:2] for base in bases], fact))

    def test_great_ones(self):
        for name, lay in great_lays():
            with self.subTest(name):
                bases, rows = self.check(lay)
                self.assertLessEqual(len(bases), len(lay))
                self.assertLess(len(rows), MANY_ROWS)

    def test_told_lists_are_new(self):
        bases, rows = rings_paper(APART)
        bases.clear()
        rows.clear()
        self.check(APART)


class Looks(unittest.TestCase):
    def look(self, told, bases, rows, lay=APART):
        return shows_rings(lay, told, bases, rows)

    def setUp(self):
        self.told = rings(APART)
        self.bases, self.rows = rings_paper(APART)

    def test_just_that(self):
        self.assertIs(self.look(self.told, self.bases, self.rows), True)
        self.assertIs(self.look(tuple(self.told), tuple(self.bases), tuple(self.rows)), True)
        self.assertIs(shows_rings(lay=APART, told=self.told, bases=self.bases, rows=self.rows), True)
        self.assertIs(shows_rings(Lay(0, []), [], [], []), True)
        for told in ([(1, 1, 1)], None, [None]):
            self.assertIs(shows_rings(Lay(0, []), told, [], []), False)
        self.assertIs(shows_rings(Lay(1, [(0, 1, 0, 1)]), [], [], []), False)

    def test_told_rings_otherwise(self):
        for at, row in enumerate(self.told):
            for place in range(3):
                for number in (row[place] + 1, row[place] - 1, -row[place], HUGE, True, None, [row[place]]):
                    if not (type(number) is int and number == row[place]):
                        other = row[:place] + (number,) + row[place + 1:]
                        self.assertIs(self.look([*self.told[:at], other, *self.told[at + 1:]], self.bases, self.rows), False)
            self.assertIs(self.look(self.told[:at] + self.told[at + 1:], self.bases, self.rows), False)
            self.assertIs(self.look([*self.told[:at], list(row), *self.told[at + 1:]], self.bases, self.rows), False)
            self.assertIs(self.look([*self.told[:at], (*row, 0), *self.told[at + 1:]], self.bases, self.rows), False)
        self.assertIs(self.look(self.told[::-1], self.bases, self.rows), False)
        self.assertIs(self.look([*self.told, (9, 1, 0)], self.bases, self.rows), False)
        # Each length and way has one row.
        self.assertIs(self.look([(1, -1, 1), (1, 1, 1), (2, 1, 2), (2, 1, 2), (4, 1, 1)], self.bases, self.rows), False)

    def test_bases_otherwise(self):
        for at, base in enumerate(self.bases):
            for place in range(6):
                for number in (base[place] + 1, base[place] - 1, -base[place] - 1, HUGE, True, None, [base[place]]):
                    other = base[:place] + (number,) + base[place + 1:]
                    if not (type(number) is int and number == base[place]):
                        self.assertIs(self.look(self.told, [*self.bases[:at], other, *self.bases[at + 1:]], self.rows), False)
            self.assertIs(self.look(self.told, self.bases[:at] + self.bases[at + 1:], self.rows), False)
            self.assertIs(self.look(self.told, [*self.bases, base], self.rows), False)
            self.assertIs(self.look(self.told, [*self.bases[:at], list(base), *self.bases[at + 1:]], self.rows), False)
        self.assertIs(self.look(self.told, self.bases[::-1], self.rows), False)

    def test_rows_otherwise(self):
        lot = [base[:2] for base in self.bases]
        for rows in otherwise(self.rows):
            if self.look(self.told, self.bases, rows):
                self.assertTrue(shows(APART, lot, rows))
                self.assertTrue(all(is_so(APART, lot, fact) for fact, _ in rows))
        self.assertIs(self.look(self.told, self.bases, self.rows[:-1]), False)
        self.assertIs(self.look(self.told, self.bases, []), False)

    def test_each_ring_once(self):
        # Both bases are one ring's, which so would be counted twice.
        lay = Lay(2, [(0, 1, 1, 1), (1, 1, 0, 1)])
        rows = [((0, 1, 1, 1, 1, 1), ("piece",)), ((1, 1, 0, 1, 1, 1), ("piece",))]
        rows += [((0, 1, 0, 1, 2, 2), ("then", 0, 1)), ((1, 1, 1, 1, 2, 2), ("then", 1, 0))]
        self.assertIs(shows(lay, [(0, 1), (1, 1)], rows), True)
        both = [(0, 1, 0, 1, 2, 2), (1, 1, 1, 1, 2, 2)]
        for told in ([(2, 1, 2)], [(2, 1, 1)]):
            self.assertIs(shows_rings(lay, told, both, rows), False)
        one = [((0, 1, 1, 1, 1, 1), ("piece",)), ((1, 1, 0, 1, 1, 0), ("piece",)), ((0, 1, 0, 1, 2, 1), ("then", 0, 1))]
        self.assertIs(shows_rings(lay, [(2, 1, 1)], [(0, 1, 0, 1, 2, 1)], one), True)

    def test_twice_round_is_no_base(self):
        still = Lay(3, [(0, 3, 0, 1)])
        rows = [((0, 3, 0, 1, 1, 1), ("piece",)), ((0, 3, 0, 1, 2, 2), ("again", 0, 2)), ((0, 2, 0, 1, 1, 1), ("part", 0))]
        self.assertIs(shows_rings(still, [(1, 1, 3)], [rows[0][0]], rows), True)
        for base in (rows[1][0], rows[2][0]):
            for told in ([(1, 1, 3)], [(2, 1, 3)], [(1, 1, 2)]):
                self.assertIs(shows_rings(still, told, [base], rows), False)

    def test_what_is_no_base_though_all_else_fits(self):
        swapped = Lay(4, [(0, 2, 2, 1), (2, 2, 0, 1)])
        rows = [((0, 2, 2, 1, 1, 1), ("piece",)), ((2, 2, 0, 1, 1, 1), ("piece",))]
        self.assertIs(shows(swapped, [(0, 2), (2, 2)], rows), True)
        self.assertIs(shows_rings(swapped, [(1, 1, 4)], [rows[0][0], rows[1][0]], rows), False)
        half = [((0, 2, 0, 1, 1, 1), ("piece",)), ((0, 2, 0, 1, 2, 2), ("again", 0, 2))]
        self.assertIs(shows(Lay(4, [(0, 4, 0, 1)]), [(0, 2)], half), True)
        self.assertIs(shows_rings(Lay(4, [(0, 4, 0, 1)]), [(2, 1, 2)], [half[1][0]], half), False)

    def test_bases_are_a_lot(self):
        one = (0, 1, 0, 1, 1, 1)
        for way in (1, -1):
            lay = Lay(2, [(0, 1, 0, 1), (1, 1, 1, way)])
            self.assertIs(shows_rings(lay, [(1, 1, 2)], [one, one], [(one, ("piece",))]), False)
            other = (1, 1, 1, way, 1, 1)
            rows = [(one, ("piece",)), (other, ("piece",))]
            told = [(1, 1, 2)] if way == 1 else [(1, -1, 1), (1, 1, 1)]
            self.assertIs(shows_rings(lay, told, [one, other], rows), True)
            self.assertIs(shows_rings(lay, told, [other, one], rows), False)

    def test_another_form(self):
        still = Lay(3, [(0, 3, 0, 1)])
        rows = [((0, 2, 0, 1, 1, 1), ("piece",)), ((2, 1, 2, 1, 1, 1), ("piece",))]
        self.assertIs(shows_rings(still, [(1, 1, 3)], [rows[0][0], rows[1][0]], rows), True)
        self.assertIs(shows_rings(still, [(1, 1, 2), (1, 1, 1)], [rows[0][0], rows[1][0]], rows), False)
        self.assertIs(shows_rings(still, [(1, 1, 2)], [rows[0][0]], [((0, 2, 0, 1, 1, 1), ("piece",))]), False)

    def test_bases_of_way_back(self):
        for many in range(1, 8):
            lay = Lay(many, [(0, many, 0, -1)])
            base = (0, many, 0, -1, 1, 1)
            told = [row for row in [(1, -1, many % 2), (2, 1, many // 2)] if row[2]]
            self.assertIs(shows_rings(lay, told, [base], [(base, ("piece",))]), True)
            for other in ([(1, -1, many)], [(1, 1, many)], [(1, -1, many % 2), (2, 1, many // 2 + 1)], told[1:], [(2, 1, many)]):
                self.assertIs(shows_rings(lay, other, [base], [(base, ("piece",))]), other == told)

    def test_of_anything(self):
        for thing in [*anything(), deep(20000)]:
            self.assertIs(self.look(thing, self.bases, self.rows), False)
            self.assertIs(self.look(self.told, thing, self.rows), False)
            self.assertIs(self.look(self.told, self.bases, thing), False)
            self.assertIs(self.look([*self.told, thing], self.bases, self.rows), False)
            self.assertIs(self.look(self.told, [*self.bases, thing], self.rows), False)
            self.assertIs(self.look(self.told, self.bases, [*self.rows, thing]), False)
            self.assertIs(self.look(thing, thing, thing), False)
            empty = isinstance(thing, (list, tuple)) and len(thing) == 0
            self.assertIs(shows_rings(Lay(0, []), thing, thing, thing), empty)
            for at, base in enumerate(self.bases):
                for place in range(6):
                    if not (type(thing) is int and thing == base[place]):
                        other = base[:place] + (thing,) + base[place + 1:]
                        self.assertIs(self.look(self.told, [*self.bases[:at], other, *self.bases[at + 1:]], self.rows), False)


if __name__ == "__main__":
    unittest.main()
