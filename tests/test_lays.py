import itertools
import unittest

from spoolrounds.errors import NoLay, NoName, NoRound, NoSpot, TooFew, TooMany
from spoolrounds.gauges import behind
from spoolrounds.lays import Lay, laid, lay_of
from spoolrounds.rounds import Rounds
from spoolrounds.threads import joined, turned, yard
from test_rounds import TURN, book
from test_rounds import walked as wound
from things import GREAT, HUGE, anything, deep, refusal, same
from walks import great_lays, small_lay, small_lays, some, table_of


def plain(table):
    """The pieces, in their one form, of a list of where each spot goes."""
    pieces = []
    for spot, (to, way) in enumerate(table):
        if pieces:
            first, many, least, its = pieces[-1]
            if its == way and to == (least + many if way == 1 else least - 1):
                pieces[-1] = (first, many + 1, min(least, to), way)
                continue
        pieces.append((spot, 1, to, way))
    return pieces


def any_table(rng, total):
    """Where each spot goes: each way to go is as likely, so most pieces are of one spot."""
    to = list(range(total))
    rng.shuffle(to)
    return [(spot, rng.choice((1, -1))) for spot in to]


class Made(unittest.TestCase):
    def test_pieces_and_where_they_lead(self):
        lay = Lay(7, [(0, 3, 4, 1), (3, 2, 0, -1), (5, 2, 2, -1)])
        self.assertTrue(same(lay.spots(), 7))
        self.assertTrue(same(lay.pieces(), [(0, 3, 4, 1), (3, 2, 0, -1), (5, 2, 2, -1)]))
        self.assertEqual(len(lay), 3)
        told = [(4, 1), (5, 1), (6, 1), (1, -1), (0, -1), (3, -1), (2, -1)]
        for spot, found in enumerate(told):
            self.assertTrue(same(lay.goes(spot), found))
        self.assertEqual(Lay(total=1, pieces=[(0, 1, 0, -1)]).goes(spot=0), (0, -1))

    def test_no_spots_and_one_spot(self):
        self.assertEqual((Lay(0, []).pieces(), Lay(0, []).spots(), len(Lay(0, ()))), ([], 0, 0))
        for way in (1, -1):
            lay = Lay(1, [(0, 1, 0, way)])
            self.assertEqual((lay.pieces(), len(lay), lay.goes(0)), ([(0, 1, 0, way)], 1, (0, way)))
        self.assertFalse(Lay(1, [(0, 1, 0, 1)]) == Lay(1, [(0, 1, 0, -1)]))

    def test_as_many_spots_as_may_be(self):
        most = 2 * GREAT
        lay = Lay(most, [(0, 1, most - 1, -1), (1, most - 1, 0, -1)])
        for spot, to in ((0, most - 1), (1, most - 2), (most - 1, 0), (GREAT, GREAT - 1)):
            self.assertEqual(lay.goes(spot), (to, -1))
        # The second piece goes on the first one.
        self.assertEqual(lay.pieces(), [(0, most, 0, -1)])
        self.assertEqual(refusal(Lay, most + 1, [(0, most + 1, 0, 1)]).part, "total")

    def test_pieces_in_any_order(self):
        pieces = [(0, 2, 5, 1), (2, 1, 2, 1), (3, 2, 0, -1), (5, 2, 3, 1)]
        for handed in itertools.permutations(pieces):
            self.assertEqual(Lay(7, list(handed)).pieces(), pieces)
            self.assertEqual(Lay(7, handed), Lay(7, pieces))

    def test_one_form(self):
        rng = some("one form")
        for _ in range(300):
            table = any_table(rng, rng.randint(0, 6)) if rng.random() < 0.5 else table_of(small_lay(rng))
            single = [(spot, 1, to, way) for spot, (to, way) in enumerate(table)]
            rng.shuffle(single)
            lay = Lay(len(table), single)
            self.assertTrue(same(lay.pieces(), plain(table)))
            self.assertEqual(len(lay), len(plain(table)))
            self.assertEqual(table_of(lay), table)

    def test_pieces_that_go_on(self):
        for pieces, one_form in (
            ([(0, 2, 1, 1), (2, 1, 3, 1), (3, 1, 0, 1)], [(0, 3, 1, 1), (3, 1, 0, 1)]),
            ([(0, 1, 3, -1), (1, 2, 1, -1), (3, 1, 0, -1)], [(0, 4, 0, -1)]),
            ([(0, 1, 0, 1), (1, 1, 1, -1), (2, 1, 2, 1), (3, 1, 3, 1)], [(0, 1, 0, 1), (1, 1, 1, -1), (2, 2, 2, 1)]),
            ([(0, 2, 0, -1), (2, 2, 2, -1)], [(0, 2, 0, -1), (2, 2, 2, -1)]),
            ([(0, 2, 2, 1), (2, 2, 0, 1)], [(0, 2, 2, 1), (2, 2, 0, 1)]),
            ([(2, 2, 2, 1), (0, 2, 0, 1)], [(0, 4, 0, 1)]),
        ):
            self.assertEqual(Lay(4, pieces).pieces(), one_form)
            self.assertEqual(Lay(4, pieces), Lay(4, one_form))

    def test_told_and_handed_lists_are_others(self):
        handed = [(0, 2, 1, 1), (2, 1, 0, 1)]
        lay = Lay(3, handed)
        handed.clear()
        told = lay.pieces()
        told.reverse()
        told.append(None)
        self.assertEqual(lay.pieces(), [(0, 2, 1, 1), (2, 1, 0, 1)])
        self.assertEqual(len(lay), 2)


class Refused(unittest.TestCase):
    def check(self, total, pieces, part):
        error = refusal(Lay, total, pieces)
        self.assertIs(type(error), NoLay)
        self.assertIsInstance(error, ValueError)
        self.assertEqual(error.part, part)

    def test_total(self):
        for thing in [*anything(), deep(20000), 2 * GREAT + 1, 3 * GREAT]:
            if type(thing) is int and 0 <= thing <= 2 * GREAT:
                continue
            for pieces in ([], None, [(0, 1, 0, 1)], [None]):
                self.check(thing, pieces, "total")

    def test_pieces(self):
        for thing in [*anything(), deep(20000)]:
            if thing != [] and thing != ():
                self.check(1, thing, "pieces")
                self.check(0, thing, "pieces")
            self.check(3, [thing], "pieces")
            self.check(3, [(0, 3, 0, 1), thing], "pieces")
            for at in range(4):
                piece = (0, 1, 1, 1)
                handed = [piece[:at] + (thing,) + piece[at + 1:], (1, 1, 0, 1)]
                fits = type(thing) is int and {0: 0 <= thing <= 1, 1: thing == 1, 2: 0 <= thing <= 1, 3: thing in (1, -1)}[at]
                if not fits:
                    self.check(2, handed, "pieces")

    def test_pieces_within_the_row(self):
        for piece in (
            (-1, 2, 0, 1), (0, 4, 0, 1), (0, 2, 2, 1), (0, 2, -1, 1), (2, 2, 0, 1), (3, 1, 0, 1), (0, 1, 3, 1), (0, 0, 0, 1),
            (0, -1, 0, 1), (0, 3, 0, 0), (0, 3, 0, 2), (0, 3, 0, -2), (0, 3, 0), (0, 3, 0, 1, 1), [0, 3, 0, 1], (0, HUGE, 0, 1),
        ):
            self.check(3, [piece], "pieces")
            self.check(3, [(0, 3, 0, 1), piece], "pieces")
        self.check(0, [(0, 0, 0, 1)], "pieces")
        self.check(0, [(0, 1, 0, 1)], "pieces")

    def test_fill(self):
        for total, pieces in (
            (1, []), (3, ()), (3, [(0, 2, 0, 1)]), (3, [(1, 2, 1, 1)]), (3, [(0, 3, 0, 1), (0, 3, 0, 1)]),
            (3, [(0, 2, 0, 1), (1, 2, 1, 1)]), (3, [(0, 1, 0, 1), (2, 1, 2, 1)]), (3, [(0, 2, 0, 1), (2, 1, 1, 1)]),
            (3, [(0, 1, 0, 1), (1, 1, 0, 1), (2, 1, 2, 1)]), (3, [(0, 1, 0, 1), (0, 1, 1, 1), (2, 1, 2, 1)]),
            (4, [(0, 2, 0, 1), (1, 1, 2, 1), (3, 1, 3, 1)]), (2 * GREAT, [(0, 2 * GREAT - 1, 0, 1)]),
        ):
            self.check(total, pieces, "fill")

    def test_order(self):
        self.check(-1, None, "total")
        self.check(3, [(0, 2, 0, 1), (5, 1, 1, 1)], "pieces")
        self.check(3, [(0, 1, 0, 1), (0, 1, 0, 1), None], "pieces")

    def test_no_spot(self):
        for lay in (Lay(0, []), Lay(3, [(0, 3, 0, -1)])):
            for thing in [*anything(), -1, 3, 4]:
                if type(thing) is int and 0 <= thing < lay.spots():
                    continue
                error = refusal(lay.goes, thing)
                self.assertIs(type(error), NoSpot)
                self.assertIsInstance(error, IndexError)
                self.assertTrue(same(error.asked, thing))
            self.assertIs(type(refusal(lay.goes, deep(20000))), NoSpot)


class Together(unittest.TestCase):
    def test_then_and_back(self):
        rng = some("then")
        for _ in range(200):
            total = rng.randint(0, 9)
            first, second = any_table(rng, total), any_table(rng, total)
            one = Lay(total, [(spot, 1, *goes) for spot, goes in enumerate(first)])
            other = Lay(total, [(spot, 1, *goes) for spot, goes in enumerate(second)])
            self.assertTrue(same(table_of(one.then(other)), [(second[to][0], way * second[to][1]) for to, way in first]))
            back = one.back()
            for spot, (to, way) in enumerate(first):
                self.assertEqual(back.goes(to), (spot, way))
            self.assertEqual(back.back(), one)
            still = Lay(total, [(0, total, 0, 1)] if total else [])
            self.assertEqual(one.then(back), still)
            self.assertEqual(back.then(one), still)
            self.assertEqual(one.then(other).back(), other.back().then(back))

    def test_then_by_long_pieces(self):
        for one, other in zip(small_lays("one", 200), small_lays("other", 200)):
            if one.spots() == other.spots():
                both = one.then(other)
                for spot in range(one.spots()):
                    to, way = one.goes(spot)
                    end, more = other.goes(to)
                    self.assertEqual(both.goes(spot), (end, way * more))
                self.assertEqual(both.pieces(), plain(table_of(both)))

    def test_great_ones(self):
        for name, lay in great_lays():
            with self.subTest(name):
                self.assertEqual(lay.then(lay.back()).pieces(), [(0, lay.spots(), 0, 1)])
                self.assertEqual(lay.back().back(), lay)
                twice = lay.then(lay)
                for spot in (0, 1, lay.spots() // 3, lay.spots() // 2, lay.spots() - 1):
                    to, way = lay.goes(spot)
                    end, more = lay.goes(to)
                    self.assertEqual(twice.goes(spot), (end, way * more))
                    self.assertEqual(lay.back().goes(to), (spot, way))
                self.assertEqual(twice.then(lay.back()), lay)

    def test_nothing_is_changed(self):
        lay = Lay(3, [(0, 2, 1, -1), (2, 1, 0, 1)])
        other = Lay(3, [(0, 1, 2, 1), (1, 2, 0, 1)])
        for asked in (lambda: lay.then(other), lay.back, lay.doubled, lambda: lay == other, lambda: laid(lay, [("a", 0, 3, 1)])):
            asked()
            self.assertEqual(lay.pieces(), [(0, 2, 1, -1), (2, 1, 0, 1)])
            self.assertEqual(other.pieces(), [(0, 1, 2, 1), (1, 2, 0, 1)])

    def test_unlike_totals(self):
        for one, other in ((0, 1), (1, 0), (3, 4), (4, 3)):
            first, second = [Lay(total, [(0, total, 0, 1)] if total else []) for total in (one, other)]
            error = refusal(first.then, second)
            self.assertIs(type(error), NoLay)
            self.assertEqual(error.part, "total")
            self.assertFalse(first == second)
        self.assertEqual(Lay(0, []).then(other=Lay(0, [])), Lay(0, []))

    def test_equal(self):
        lay = Lay(2, [(0, 2, 0, 1)])
        self.assertIs(lay == Lay(2, [(1, 1, 1, 1), (0, 1, 0, 1)]), True)
        for other in (Lay(2, [(0, 2, 0, -1)]), Lay(2, [(0, 1, 0, 1), (1, 1, 1, -1)]), Lay(3, [(0, 3, 0, 1)]), Lay(0, [])):
            self.assertIs(lay == other, False)
            self.assertIs(lay != other, True)
        for thing in [*anything(), deep(20000), lay.pieces(), (2, lay.pieces()), Lay]:
            self.assertIs(lay == thing, False)
            self.assertIs(thing == lay, False)


class Doubled(unittest.TestCase):
    def test_each_self(self):
        for lay in [Lay(0, []), Lay(1, [(0, 1, 0, -1)]), *small_lays("doubled", 200)]:
            total = lay.spots()
            twice = lay.doubled()
            self.assertEqual(twice.spots(), 2 * total)
            for spot in range(total):
                to, way = lay.goes(spot)
                here, there = (to, 2 * total - 1 - to) if way == 1 else (2 * total - 1 - to, to)
                self.assertTrue(same(twice.goes(spot), (here, 1)))
                self.assertTrue(same(twice.goes(2 * total - 1 - spot), (there, 1)))
            self.assertEqual(twice.pieces(), plain(table_of(twice)))

    def test_great_ones(self):
        for name, lay in great_lays(GREAT):
            with self.subTest(name):
                twice = lay.doubled()
                self.assertEqual({way for _, _, _, way in twice.pieces()}, {1})
                for spot in (0, lay.spots() // 3, lay.spots() - 1):
                    to, way = lay.goes(spot)
                    self.assertEqual(twice.goes(spot)[0], to if way == 1 else 2 * lay.spots() - 1 - to)

    def test_how_many(self):
        lay = Lay(GREAT, [(0, GREAT, 0, -1)])
        self.assertEqual(lay.doubled().pieces(), [(0, GREAT, GREAT, 1), (GREAT, GREAT, 0, 1)])
        for total in (GREAT + 1, 2 * GREAT):
            error = refusal(Lay(total, [(0, total, 0, 1)]).doubled)
            self.assertIs(type(error), NoLay)
            self.assertEqual(error.part, "total")
        self.assertIs(type(refusal(lay.doubled().doubled)), NoLay)


class OfRounds(unittest.TestCase):
    def test_against_a_walk(self):
        steps = [("wind", 0, 1, 2), ("wind", 1, 2, 3), ("wind", 2, 0, 1), TURN, ("turn", 2), ("swap", 0, 2), ("swap", 1, 0)]
        for gauge in ((4, 0, 3), (2, 3, 1), (0, 5, 2), (0, 0, 0)):
            for chosen in itertools.product(steps, repeat=3):
                ends = [0, *itertools.accumulate(gauge)]
                try:
                    spools = wound([[(k, 1) for k in range(a, b)] for a, b in zip(ends, ends[1:])], chosen)
                except IndexError:
                    self.assertIs(type(refusal(lay_of, Rounds(), chosen, gauge)), TooFew)
                    continue
                lay = lay_of(Rounds(), chosen, gauge)
                self.assertEqual(lay.spots(), sum(gauge))
                for to, (spot, way) in enumerate([yard for spool in spools for yard in spool]):
                    self.assertTrue(same(lay.goes(spot), (to, way)))

    def test_great_round(self):
        rounds = book(over=(("wind", 0, 1, GREAT // 2), ("turn", 2), ("wind", 1, 2, GREAT // 3)))
        gauge = (GREAT - 5, 2, 3)
        lay = lay_of(rounds, (("do", "over", 1),), gauge)
        back = lay_of(rounds, (("do", "over", -1),), behind(rounds, (("do", "over", 1),), gauge))
        self.assertEqual(lay.back(), back)
        half, third = GREAT // 2, GREAT // 3
        # The topmost yard of all lies lowest of those wound, and so does not go on.
        self.assertEqual(lay.goes(0), ((GREAT - 5 - half) + half - third - 1, -1))
        self.assertEqual(lay.goes(half - 1), (GREAT - 3 - 1 - third + third, 1))
        self.assertEqual(lay_of(rounds=rounds, steps=(), gauge=gauge).pieces(), [(0, GREAT, 0, 1)])

    def test_backwards(self):
        rounds = book(a=(("wind", 0, 1, 3), ("swap", 1, 2), TURN), b=(("do", "a", -2), ("wind", 0, 2, 1)))
        there = lay_of(rounds, (("do", "a", 1),), (5, 1, 4))
        gauge = behind(rounds, (("do", "a", 1),), (5, 1, 4))
        self.assertEqual(there.back(), lay_of(rounds, (("do", "a", -1),), gauge))
        self.assertEqual(there.then(there.back()), lay_of(rounds, (("do", "a", 1), ("do", "a", -1)), (5, 1, 4)))

    def test_refused(self):
        rounds = book(a=(TURN,) * 10)
        few = ("wind", 0, 1, 1)
        for steps, kind, attribute, value in (
            ((TURN, few), TooFew, "at", 1), ((TURN, TURN, ("turn", 2)), TooFew, "at", 2), ((few, None), NoRound, "at", 1),
            ([few], NoRound, "at", None), ((few, ("do", "x", 1)), NoName, "name", "x"),
            ((few, ("do", "a", 4)), TooMany, "many", 41), ((few, ("do", "a", 4), None), NoRound, "at", 2),
        ):
            error = refusal(lay_of, rounds, steps, (0, 0))
            self.assertIs(type(error), kind)
            self.assertTrue(same(getattr(error, attribute), value))
        for thing in [*anything(), deep(20000)]:
            if thing != () and thing != (TURN,):
                self.assertIs(type(refusal(lay_of, rounds, thing, (0, 0))), NoRound)


class Laid(unittest.TestCase):
    def test_yard_by_yard(self):
        rng = some("laid")
        for lay in [Lay(0, []), *small_lays("laid", 200)]:
            row = []
            while sum(stretch[2] for stretch in row) < lay.spots():
                many = rng.randint(1, lay.spots() - sum(stretch[2] for stretch in row))
                row.append((rng.choice("ab"), rng.randint(20, 25), many, rng.choice((1, -1))))
            told = laid(lay, row)
            self.assertEqual(told, joined(told))
            self.assertIs(type(told), list)
            for spot in range(lay.spots()):
                to, way = lay.goes(spot)
                word, number, its = yard(row, spot)
                self.assertEqual(yard(told, to), (word, number, its * way))
            self.assertEqual(laid(lay, tuple(row)), told)
            self.assertEqual(laid(lay.back(), told), joined(row))

    def test_great_row(self):
        most = 2 * GREAT
        row = [("a", 0, GREAT, 1), ("b", GREAT, GREAT, -1)]
        self.assertEqual(laid(Lay(most, [(0, most, 0, -1)]), row), turned(row))
        self.assertEqual(laid(lay=Lay(most, [(0, most, 0, 1)]), row=row), row)
        swapped = Lay(most, [(0, GREAT + 1, GREAT - 1, 1), (GREAT + 1, GREAT - 1, 0, -1)])
        self.assertEqual(laid(swapped, row), [("b", 1, GREAT - 1, 1), ("a", 0, GREAT, 1), ("b", GREAT, 1, -1)])

    def test_told_in_one_form(self):
        lay = Lay(4, [(0, 2, 2, 1), (2, 2, 0, 1)])
        self.assertEqual(laid(lay, [("a", 2, 2, 1), ("a", 0, 2, 1)]), [("a", 0, 4, 1)])
        self.assertEqual(laid(lay, [("a", 5, 1, 1), ("a", 6, 1, 1), ("a", 7, 2, 1)]), [("a", 7, 2, 1), ("a", 5, 2, 1)])

    def test_more_or_fewer_yards(self):
        lay = Lay(3, [(0, 3, 0, -1)])
        for row in ([], [("a", 0, 2, 1)], [("a", 0, 4, 1)], [("a", 0, 3, 1), ("b", 0, 1, 1)], [("a", 0, GREAT, 1)]):
            error = refusal(laid, lay, row)
            self.assertIs(type(error), NoLay)
            self.assertEqual(error.part, "total")
        self.assertEqual(laid(Lay(0, []), []), [])
        self.assertIs(type(refusal(laid, Lay(0, []), [("a", 0, 1, 1)])), NoLay)

    def test_the_row_stays(self):
        row = [("a", 0, 2, 1), ("a", 2, 1, 1)]
        laid(Lay(3, [(0, 3, 0, -1)]), row)
        self.assertEqual(row, [("a", 0, 2, 1), ("a", 2, 1, 1)])


if __name__ == "__main__":
    unittest.main()
