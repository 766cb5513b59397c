import copy
import itertools
import unittest

from spoolrounds.errors import BadName, Known, NoName, NoRound, TooMany
from spoolrounds.rounds import Rounds, is_round
from things import GREAT, HUGE, WORDS, anything, deep, refusal, same

GOOD_STEPS = [
    ("wind", 0, 1, 1), ("wind", 5, 0, GREAT), ("wind", 0, 5, 7), ("turn", 0), ("turn", 5), ("swap", 0, 5),
    ("swap", 5, 0), ("do", "a", 0), ("do", "abcdefgh", 9), ("do", "do", -9), ("do", "z", 1),
]
BAD_STEPS = [
    ("wind", 0, 0, 1), ("wind", 0, 6, 1), ("wind", 6, 0, 1), ("wind", -1, 0, 1), ("wind", 0, -1, 1),
    ("wind", 0, 1, 0), ("wind", 0, 1, -1), ("wind", 0, 1, GREAT + 1), ("wind", 0, 1, HUGE), ("wind", 0, 1),
    ("wind", 0, 1, 1, 1), ("wind", True, 0, 1), ("wind", 0, True, 1), ("wind", 2, False, 1), ("wind", 0, 1, True),
    ("wind", "0", 1, 1), ("wind",), ["wind", 0, 1, 1], ("wind", (0, 1, 1)),
    ("turn",), ("turn", 6), ("turn", -1), ("turn", True), ("turn", False), ("turn", None), ("turn", "0"),
    ("turn", 0, 1), ("turn", [0]), ["turn", 0], ("turn", HUGE),
    ("swap", 0), ("swap", 0, 0), ("swap", 0, 6), ("swap", 6, 0), ("swap", -1, 0), ("swap", 0, -1), ("swap", 0, 1, 2),
    ("swap", False, 1), ("swap", 0, True), ["swap", 0, 1], ("swap",),
    ("do", "a"), ("do", "a", 10), ("do", "a", -10), ("do", "a", True), ("do", "a", False), ("do", "a", "1"),
    ("do", "a", None), ("do", "A", 1), ("do", "", 1), ("do", "abcdefghi", 1), ("do", 1, 1), ("do", ["a"], 1),
    ("do", ("a",), 1), ("do", "a", 1, 1), ["do", "a", 1], ("do",), ("do", "a", HUGE), ("do", None, 1),
    ("Wind", 0, 1, 1), ("winds", 0, 1, 1), ("", 0), (0, 0), (None, 0), ([], 0), ("take", 0, 1), (("turn", 0),),
]
TURN = ("turn", 0)


def book(**told):
    rounds = Rounds()
    for name, steps in told.items():
        rounds.tell(name, steps)
    return rounds


def walked(spools, steps):
    """Spools of yards, the topmost first, wound by written out steps yard by yard."""
    spools = [list(spool) for spool in spools]
    for step in steps:
        if step[0] == "wind":
            for _ in range(step[3]):
                number, way = spools[step[1]].pop(0)
                spools[step[2]].insert(0, (number, -way))
        elif step[0] == "turn":
            spools[step[1]] = [(number, -way) for number, way in reversed(spools[step[1]])]
        else:
            one, other = step[1], step[2]
            spools[one], spools[other] = spools[other], spools[one]
    return spools


class AreRounds(unittest.TestCase):
    def test_rounds(self):
        self.assertIs(is_round(()), True)
        for step in GOOD_STEPS:
            with self.subTest(step):
                self.assertIs(is_round((step,)), True)
        self.assertIs(is_round(tuple(GOOD_STEPS)), True)
        self.assertIs(is_round((("do", "a", 9),) * 24), True)
        self.assertIs(is_round(thing=()), True)

    def test_how_many_steps(self):
        for many in (0, 1, 23, 24):
            self.assertIs(is_round((TURN,) * many), True)
        for many in (25, 26, 1000):
            self.assertIs(is_round((TURN,) * many), False)

    def test_each_way_and_times(self):
        for times in range(-9, 10):
            self.assertIs(is_round((("do", "a", times),)), True)
        for a, b in itertools.product(range(-1, 7), repeat=2):
            told = 0 <= a <= 5 and 0 <= b <= 5 and a != b
            self.assertIs(is_round((("wind", a, b, 3),)), told)
            self.assertIs(is_round((("swap", a, b),)), told)

    def test_no_rounds(self):
        for step in [*BAD_STEPS, *[thing for thing in anything() if thing != ("turn", 0)]]:
            with self.subTest(str(step)[:40]):
                self.assertIs(is_round((step,)), False)
                self.assertIs(is_round((TURN, step)), False)
                self.assertIs(is_round((step, TURN)), False)

    def test_of_anything(self):
        for thing in [*anything(), deep(20000)]:
            self.assertIs(is_round(thing), thing in ((), (TURN,)))
        self.assertIs(is_round([TURN]), False)
        self.assertIs(is_round([]), False)

    def test_of_anything_in_each_place(self):
        def fits(kind, at, thing):
            if kind == "do" and at == 1:
                return isinstance(thing, str) and thing in WORDS
            if type(thing) is not int:
                return False
            if at == 3:
                return 1 <= thing <= GREAT
            return -9 <= thing <= 9 if kind == "do" else 0 <= thing <= 5
        for step in (("wind", 4, 3, 1), ("turn", 4), ("swap", 4, 3), ("do", "a", 1)):
            for at in range(1, len(step)):
                for thing in anything():
                    other = step[:at] + (thing,) + step[at + 1:]
                    with self.subTest(str(other)[:60]):
                        self.assertIs(is_round((other,)), fits(step[0], at, thing))


class Told(unittest.TestCase):
    def test_tell_and_steps(self):
        rounds = Rounds()
        first = (("wind", 0, 1, 5), TURN)
        second = (("do", "one", -2), ("do", "one", 0))
        self.assertIsNone(rounds.tell("one", first))
        self.assertIsNone(rounds.tell(name="two", steps=second))
        self.assertIsNone(rounds.tell("empty", ()))
        self.assertTrue(same(rounds.steps("one"), first))
        self.assertTrue(same(rounds.steps(name="two"), second))
        self.assertTrue(same(rounds.steps("empty"), ()))

    def test_names_are_told_by_letters(self):
        self.assertEqual(Rounds().names(), [])
        rounds = book(b=(), ab=(), z=(), a=(), abc=(), aa=())
        self.assertTrue(same(rounds.names(), ["a", "aa", "ab", "abc", "b", "z"]))

    def test_names_are_told_by_the_book_alone(self):
        one = book(a=())
        other = Rounds()
        self.assertEqual(other.names(), [])
        other.tell("a", (TURN,))
        self.assertEqual(one.steps("a"), ())

    def test_bad_name(self):
        for thing in anything():
            if isinstance(thing, str) and thing in WORDS:
                continue
            rounds = Rounds()
            error = refusal(rounds.tell, thing, ())
            self.assertIs(type(error), BadName)
            self.assertIsInstance(error, ValueError)
            self.assertTrue(same(error.asked, thing))
            self.assertEqual(rounds.names(), [])
        self.assertIs(type(refusal(Rounds().tell, deep(20000), ())), BadName)
        asked = [1, [2]]
        error = refusal(Rounds().tell, asked, ())
        asked[1].append(3)
        self.assertEqual(error.asked, [1, [2]])

    def test_known(self):
        rounds = book(a=(TURN,), b=())
        error = refusal(rounds.tell, "a", ())
        self.assertIs(type(error), Known)
        self.assertIsInstance(error, LookupError)
        self.assertEqual(error.name, "a")
        self.assertEqual(rounds.steps("a"), (TURN,))
        self.assertIs(type(refusal(rounds.tell, "b", ())), Known)

    def test_steps_of_no_name(self):
        rounds = book(b=(TURN,))
        for thing in anything():
            error = refusal(rounds.steps, thing)
            self.assertIs(type(error), NoName)
            self.assertIsInstance(error, KeyError)
            self.assertTrue(same(error.name, thing))
        asked = [1, [2]]
        error = refusal(rounds.steps, asked)
        asked[1].append(3)
        self.assertEqual(error.name, [1, [2]])
        self.assertIs(type(refusal(rounds.steps, deep(20000))), NoName)

    def test_own_name_isnt_elder(self):
        rounds = Rounds()
        error = refusal(rounds.tell, "a", (("do", "a", 1),))
        self.assertIs(type(error), NoName)
        self.assertEqual(error.name, "a")
        self.assertEqual(rounds.names(), [])


class Written(unittest.TestCase):
    def test_plain_steps_stay(self):
        steps = (("wind", 0, 1, GREAT), ("turn", 5), ("swap", 3, 2))
        self.assertTrue(same(Rounds().written(steps), list(steps)))
        self.assertTrue(same(Rounds().written(steps=()), []))

    def test_forwards_and_backwards(self):
        there = [("wind", 0, 1, 5), ("turn", 2), ("swap", 3, 4), ("wind", 1, 3, 2)]
        back = [("wind", 3, 1, 2), ("swap", 3, 4), ("turn", 2), ("wind", 1, 0, 5)]
        rounds = book(a=tuple(there), none=())
        for times in range(-9, 10):
            plain = back * -times if times < 0 else there * times
            self.assertTrue(same(rounds.written((("do", "a", times),)), plain))
            self.assertEqual(rounds.written((("do", "none", times),)), [])
        self.assertEqual(rounds.written((TURN, ("do", "a", 1), ("do", "a", -1), TURN)), [TURN, *there, *back, TURN])

    def test_names_of_names(self):
        rounds = book(a=(("wind", 0, 1, 1), TURN), b=(("do", "a", -2), ("turn", 1)), c=(("do", "b", -1), ("do", "a", 1)))
        back = [TURN, ("wind", 1, 0, 1)]
        there = [("wind", 0, 1, 1), TURN]
        self.assertEqual(rounds.written((("do", "b", 1),)), [*back, *back, ("turn", 1)])
        self.assertEqual(rounds.written((("do", "c", 1),)), [("turn", 1), *there * 3])
        self.assertEqual(rounds.written((("do", "c", -1),)), [*back * 3, ("turn", 1)])

    def test_backwards_undoes(self):
        spools = [[(k, 1) for k in range(6)], [(k, -1) for k in range(6, 9)], [(9, 1)]]
        steps = [("wind", 0, 1, 2), ("wind", 1, 2, 3), ("turn", 0), ("turn", 1), ("swap", 0, 2), ("swap", 2, 1)]
        for chosen in itertools.product(steps, repeat=3):
            rounds = book(a=chosen)
            try:
                behind = walked(spools, rounds.written((("do", "a", 1),)))
            except IndexError:
                continue
            self.assertEqual(walked(behind, rounds.written((("do", "a", -1),))), spools)

    def test_forty_steps(self):
        rounds = book(a=(TURN,) * 10, b=(("do", "a", 4),), c=(("do", "a", -4),))
        for steps in (
            (("do", "a", 4),), (("do", "a", -4),), (("do", "b", 1),), (("do", "c", -1),),
            (("do", "a", 3), *(TURN,) * 10), (("do", "b", 0), ("do", "a", 2), ("do", "a", -2)),
        ):
            self.assertEqual(len(rounds.written(steps)), 40)

    def test_more_than_forty(self):
        rounds = book(a=(TURN,) * 10, b=(("do", "a", 4),))
        for steps, many in (
            ((("do", "a", 4), TURN), 41), ((TURN, ("do", "b", -1)), 41), ((("do", "a", 5),), 50),
            ((("do", "a", -9),), 90), ((("do", "b", 9),), 360), ((("do", "b", -9),) * 24, 8640),
        ):
            for error in (refusal(rounds.written, steps), refusal(rounds.tell, "new", steps)):
                self.assertIs(type(error), TooMany)
                self.assertIsInstance(error, RuntimeError)
                self.assertEqual(error.many, many)
        self.assertEqual(rounds.names(), ["a", "b"])

    def test_many_names_deep(self):
        names = ["".join(letters) for letters in itertools.product("abc", repeat=4)][:60]
        for first in ((), (TURN,)):
            rounds = book(**{names[0]: first})
            steps = (("do", 9), ("do", -9)) * 12 if not first else (("do", 1),)
            for elder, name in zip(names, names[1:]):
                rounds.tell(name, tuple((kind, elder, times) for kind, times in steps))
            self.assertEqual(rounds.written((("do", names[-1], -9),)), list(first) * 9)
        grown = book(**{names[0]: (TURN,)})
        for many, (elder, name) in zip((3, 9, 27), zip(names, names[1:])):
            grown.tell(name, (("do", elder, 1),) * 3)
            self.assertEqual(len(grown.written((("do", name, 1),))), many)
        self.assertEqual(refusal(grown.tell, names[4], (("do", names[3], 1),) * 3).many, 81)
        still = book(**{names[0]: (TURN,)})
        for elder, name in zip(names, names[1:]):
            still.tell(name, (("do", elder, 0),) * 23 + (("do", elder, -1),))
        self.assertEqual(still.written((("do", names[-1], 1),)), [TURN])


class Refused(unittest.TestCase):
    """A round is refused by `written` and by `tell` alike, and nothing is changed by it."""

    def check(self, rounds, steps, kind, attribute, value):
        before = [(name, rounds.steps(name)) for name in rounds.names()]
        for error in (refusal(rounds.written, steps), refusal(rounds.tell, "new", steps)):
            self.assertIs(type(error), kind)
            self.assertTrue(same(getattr(error, attribute), value))
        self.assertEqual([(name, rounds.steps(name)) for name in rounds.names()], before)
        self.assertIsNone(refusal(rounds.written, (TURN,)))

    def test_no_tuple_of_few(self):
        for thing in [*anything(), [TURN], deep(20000), (TURN,) * 25, (None,) * 25, (TURN,) * 1000]:
            if not isinstance(thing, tuple) or len(thing) > 24:
                self.check(Rounds(), thing, NoRound, "at", None)
        self.assertTrue(issubclass(NoRound, ValueError))

    def test_first_step_that_isnt_as_told(self):
        for step in [*BAD_STEPS, *[thing for thing in anything() if thing != TURN]]:
            for at in (0, 1, 23):
                steps = (TURN,) * at + (step,)
                self.check(Rounds(), steps, NoRound, "at", at)
            self.check(Rounds(), (TURN, step, TURN, None), NoRound, "at", 1)

    def test_first_name_that_isnt_told(self):
        rounds = book(a=(TURN,))
        for times in (-9, -1, 0, 1, 9):
            self.check(rounds, (("do", "x", times),), NoName, "name", "x")
            self.check(rounds, (("do", "a", 0), ("do", "y", times), ("do", "x", 1)), NoName, "name", "y")
        self.assertTrue(issubclass(NoName, KeyError))

    def test_order(self):
        rounds = book(a=(TURN,) * 10, known=())
        too_many = ("do", "a", 9)
        unknown = ("do", "x", 1)
        self.check(rounds, (too_many, unknown, None), NoRound, "at", 2)
        self.check(rounds, (unknown, ("turn", 6)), NoRound, "at", 1)
        self.check(rounds, (None,) * 25, NoRound, "at", None)
        self.check(rounds, (too_many, unknown), NoName, "name", "x")
        self.check(rounds, (too_many,), TooMany, "many", 90)
        for steps in (None, (None,), (unknown,), (too_many,), ()):
            self.assertIs(type(refusal(rounds.tell, "Bad", steps)), BadName)
            self.assertIs(type(refusal(rounds.tell, "known", steps)), Known)
        self.assertEqual(rounds.names(), ["a", "known"])

    def test_what_was_refused_can_be_told(self):
        rounds = book(a=(TURN,) * 10)
        for steps in (None, (("do", "b", 1),), (("do", "a", 5),)):
            self.assertIsNotNone(refusal(rounds.tell, "b", steps))
        rounds.tell("b", (("do", "a", 2),))
        self.assertEqual(len(rounds.written((("do", "b", 2),))), 40)


class Unchanged(unittest.TestCase):
    def test_told_lists_are_new(self):
        rounds = book(a=(TURN, ("turn", 1)), b=(("do", "a", 1),))
        for asked in (
            rounds.names, lambda: rounds.written((TURN,)), lambda: rounds.written((("do", "a", 1),)),
            lambda: rounds.written((("do", "b", -1),)), lambda: rounds.written(()),
        ):
            told = asked()
            before = copy.deepcopy(told)
            told.reverse()
            told.append("changed")
            self.assertEqual(asked(), before)
        self.assertEqual(rounds.steps("b"), (("do", "a", 1),))
        self.assertEqual(rounds.written((("do", "b", 1),)), [TURN, ("turn", 1)])

    def test_kinds(self):
        rounds = book(a=(TURN,))
        self.assertIs(type(rounds.names()), list)
        self.assertIs(type(rounds.steps("a")), tuple)
        told = rounds.written((TURN, ("do", "a", -2)))
        self.assertIs(type(told), list)
        self.assertEqual({type(step) for step in told}, {tuple})


if __name__ == "__main__":
    unittest.main()
