import itertools
import unittest

from spoolrounds.errors import NoName, NoRound, NoSpot, TooFew, TooMany
from spoolrounds.gauges import behind, is_even, is_gauge, place, spot
from spoolrounds.rounds import Rounds
from test_rounds import BAD_STEPS, TURN, book, walked
from things import GREAT, HUGE, anything, deep, refusal, same

GAUGES = [
    (0, 0), (1, 0), (0, 1), (3, 4), (0, 5, 0), (2, 0, 3), (0, 0, 0, 0, 0, 0), (1, 2, 3, 0, 4, 5), (0, 0, 0, 0, 0, 2),
]


class AreGauges(unittest.TestCase):
    def test_gauges(self):
        for gauge in [*GAUGES, (GREAT, 0), (0, GREAT), (GREAT - 5, 5), (0, 0, GREAT, 0, 0, 0), (1,) * 5 + (GREAT - 5,)]:
            self.assertIs(is_gauge(gauge), True)
        self.assertIs(is_gauge(thing=(0, 0)), True)

    def test_how_many_spools(self):
        for many in range(9):
            self.assertIs(is_gauge((1,) * many), 2 <= many <= 6)

    def test_no_gauges(self):
        for thing in (
            (GREAT + 1, 0), (GREAT, 1), (GREAT, GREAT), (1, 0, 0, 0, 0, GREAT), (HUGE, 0), (-1, 0), (0, -1), (5, -5),
            (HUGE, -HUGE), (True, 1), (1, False), ("1", 2), (1, None), (1, (2,)), [1, 2], ((1, 2),), (1, [2]), {1: 2, 3: 4},
        ):
            self.assertIs(is_gauge(thing), False)

    def test_of_anything(self):
        for thing in [*anything(), deep(20000)]:
            self.assertIs(is_gauge(thing), False)
            self.assertIs(is_gauge((1, thing)), type(thing) is int and 0 <= thing < GREAT)
            self.assertIs(is_gauge((thing, 0, 0)), type(thing) is int and 0 <= thing <= GREAT)


class Spots(unittest.TestCase):
    def test_each_spot_and_place(self):
        for gauge in GAUGES:
            at = 0
            for spool, many in enumerate(gauge):
                for depth in range(many):
                    self.assertEqual(spot(gauge, spool, depth), at)
                    self.assertTrue(same(place(gauge, at), (spool, depth)))
                    at += 1
        self.assertEqual(spot(gauge=(1, 2), spool=1, depth=0), 1)
        self.assertEqual(place(gauge=(1, 2), spot=2), (1, 1))

    def test_great_spools(self):
        gauge = (0, GREAT - 1, 0, 1)
        for at, found in ((0, (1, 0)), (GREAT - 2, (1, GREAT - 2)), (GREAT - 1, (3, 0)), (7, (1, 7))):
            self.assertEqual(place(gauge, at), found)
            self.assertEqual(spot(gauge, *found), at)

    def test_no_place(self):
        for gauge in GAUGES:
            for spool, depth in itertools.product(range(-2, 8), range(-2, 7)):
                if not (0 <= spool < len(gauge) and 0 <= depth < gauge[spool]):
                    self.check(refusal(spot, gauge, spool, depth), (spool, depth))

    def test_no_place_of_anything(self):
        for thing in anything():
            whole = type(thing) is int
            if not (whole and thing in (0, 1)):
                self.check(refusal(spot, (3, 4), thing, 0), (thing, 0))
            if not (whole and 0 <= thing < 3):
                self.check(refusal(spot, (3, 4), 0, thing), (0, thing))
            if not (whole and 0 <= thing < 7):
                self.check(refusal(place, (3, 4), thing), thing)
        for error in (refusal(spot, (3, 4), deep(20000), 0), refusal(place, (3, 4), deep(20000))):
            self.assertIs(type(error), NoSpot)

    def test_no_spot(self):
        for gauge in GAUGES:
            for at in (-1, -2, sum(gauge), sum(gauge) + 1, HUGE, -HUGE, True, False, None, "0", [0], (0,)):
                self.check(refusal(place, gauge, at), at)

    def test_what_was_refused_is_kept(self):
        asked = [0, [1]]
        errors = [refusal(spot, (3, 4), 0, asked), refusal(spot, (3, 4), asked, 0), refusal(place, (3, 4), asked)]
        asked[1].append(2)
        self.assertEqual([error.asked for error in errors], [(0, [0, [1]]), ([0, [1]], 0), [0, [1]]])

    def check(self, error, asked):
        self.assertIs(type(error), NoSpot)
        self.assertIsInstance(error, IndexError)
        self.assertTrue(same(error.asked, asked))


class Behind(unittest.TestCase):
    def test_against_a_walk(self):
        steps = [("wind", 0, 1, 2), ("wind", 1, 2, 3), ("wind", 2, 0, 1), TURN, ("turn", 2), ("swap", 0, 2), ("swap", 1, 3)]
        for gauge in ((2, 1), (4, 0, 3), (0, 3, 1, 2)):
            for chosen in itertools.product(steps, repeat=3):
                spools = [[None] * many for many in gauge]
                for at, step in enumerate(chosen):
                    try:
                        spools = walked([[(0, 1)] * len(spool) for spool in spools], (step,))
                    except IndexError:
                        error = refusal(behind, Rounds(), chosen, gauge)
                        self.assertIs(type(error), TooFew)
                        self.assertEqual(error.at, at)
                        break
                else:
                    found = tuple(len(spool) for spool in spools)
                    self.assertTrue(same(behind(Rounds(), chosen, gauge), found))
                    self.assertIs(is_even(Rounds(), chosen, gauge), found == gauge)

    def test_great_windings(self):
        steps = (("wind", 0, 1, GREAT), ("wind", 1, 2, GREAT - 1), ("swap", 0, 2))
        self.assertEqual(behind(Rounds(), steps, (GREAT, 0, 0)), (GREAT - 1, 1, 0))
        self.assertEqual(refusal(behind, Rounds(), steps, (GREAT - 1, 0, 0)).at, 0)

    def test_even(self):
        over = ("wind", 0, 1, 3)
        for steps, gauge, even in (
            ((), (0, 0), True), ((), (5, 6), True), ((TURN,), (0, 0), True), ((("swap", 0, 1),), (4, 4), True),
            ((("swap", 0, 1),), (4, 5), False), ((over,), (3, 0), False), ((over, ("wind", 1, 0, 3)), (3, 0), True),
            ((over, ("swap", 0, 1)), (5, 2), True), ((over, ("swap", 0, 1)), (5, 3), False),
        ):
            self.assertIs(is_even(Rounds(), steps, gauge), even)
        self.assertIs(is_even(rounds=Rounds(), steps=(), gauge=(1, 1)), True)
        self.assertEqual(behind(rounds=Rounds(), steps=(), gauge=(1, 1)), (1, 1))

    def test_named_rounds(self):
        rounds = book(over=(("wind", 0, 1, 2), ("swap", 0, 2)), twice=(("do", "over", 2),))
        self.assertEqual(behind(rounds, (("do", "over", 1),), (5, 1, 4)), (4, 3, 3))
        self.assertEqual(behind(rounds, (("do", "over", -1),), (4, 3, 3)), (5, 1, 4))
        self.assertEqual(behind(rounds, (("do", "twice", -1),), behind(rounds, (("do", "twice", 1),), (5, 1, 4))), (5, 1, 4))
        self.assertEqual(behind(rounds, (("do", "over", 0),), (0, 0, 0)), (0, 0, 0))
        self.assertIs(is_even(rounds, (("do", "over", 2),), (5, 1, 4)), False)
        self.assertIs(is_even(rounds, (("do", "over", 2), ("do", "over", -2)), (5, 1, 4)), True)


class Refused(unittest.TestCase):
    def check(self, rounds, steps, gauge, kind, attribute, value):
        for asked in (behind, is_even):
            error = refusal(asked, rounds, steps, gauge)
            self.assertIs(type(error), kind)
            self.assertTrue(same(getattr(error, attribute), value))

    def test_too_few_at_each_step(self):
        rounds = book(over=(TURN, ("wind", 0, 1, 4)), both=(("do", "over", 1), ("do", "over", 1)))
        fine = ("wind", 0, 1, 1)
        for steps, gauge, at in (
            ((("wind", 0, 1, 4),), (3, 9), 0), ((fine, ("wind", 0, 1, 3), fine), (3, 9), 1),
            ((fine, fine, ("wind", 0, 1, 2)), (3, 9), 2), ((("turn", 2),), (3, 9), 0), ((TURN, ("turn", 5)), (3, 9), 1),
            ((("swap", 0, 2),), (3, 9), 0), ((("swap", 2, 1),), (3, 9), 0), ((("wind", 2, 0, 1),), (3, 9), 0),
            ((("wind", 0, 2, 1),), (3, 9), 0), ((("swap", 4, 5),), (1, 1, 1, 1, 1), 0), ((("wind", 1, 0, 1),), (5, 0), 0),
            ((fine, ("do", "over", 1)), (4, 0), 2), ((("do", "both", 1),), (7, 0), 3), ((("do", "over", -1),), (9, 3), 0),
            ((("do", "over", -2),), (9, 7), 2), ((fine, ("do", "over", 0), ("do", "over", -1)), (9, 2), 1),
            ((TURN,) * 23 + (("wind", 0, 1, 10),), (9, 0), 23), ((("do", "over", 9), ("do", "over", 9)), (71, 0), 35),
            ((("wind", 0, 1, GREAT),), (GREAT - 1, 1), 0),
        ):
            self.check(rounds, steps, gauge, TooFew, "at", at)
        self.assertTrue(issubclass(TooFew, ArithmeticError))

    def test_rounds_first(self):
        rounds = book(a=(TURN,) * 10)
        few = ("wind", 0, 1, 1)
        for step in BAD_STEPS:
            self.check(rounds, (few, step), (0, 0), NoRound, "at", 1)
        for thing in [*anything(), [few], (few,) * 25]:
            if not isinstance(thing, tuple) or len(thing) > 24:
                self.check(rounds, thing, (0, 0), NoRound, "at", None)
        self.check(rounds, (few, ("do", "x", 0)), (0, 0), NoName, "name", "x")
        self.check(rounds, (few, ("do", "a", 9)), (0, 0), TooMany, "many", 91)
        self.check(rounds, (few, ("do", "x", 9), ("do", "a", 9), None), (0, 0), NoRound, "at", 3)
        self.check(rounds, (few, ("do", "a", 9), ("do", "x", 9)), (0, 0), NoName, "name", "x")

    def test_nothing_is_changed(self):
        rounds = book(a=(TURN,))
        refusal(behind, rounds, (("do", "a", 1), ("wind", 0, 1, 1)), (0, 0))
        self.assertEqual(rounds.names(), ["a"])
        self.assertEqual(behind(rounds, (("do", "a", 1),), (0, 0)), (0, 0))


if __name__ == "__main__":
    unittest.main()
