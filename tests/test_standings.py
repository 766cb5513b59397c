import itertools
import unittest

from spoolrounds.errors import NoStanding, TooFew, TooMany
from spoolrounds.standings import fewest, is_standing, way_there, wound
from spoolrounds.threads import is_word, joined, turned, yards
from things import GREAT, HUGE, anything, deep, refusal, same
from walks import some
from yards import about, singly, stepped, told_of

ONE = ((("red", 0, 5, 1), ("blue", 9, 3, -1)), (("red", 7, 2, 1),), ())
TWO = ((("a", 0, 5, 1),), (("b", 0, 3, 1), ("a", 9, 1, -1)))


def standing_of(spools):
    """The standing of yards one by one."""
    return tuple(tuple(told_of(spool)) for spool in spools)


def walked(standing, steps):
    """Wound yard by yard; the number of the step that can't be done, or the standing."""
    made = stepped([singly(row) for row in standing], steps)
    return made if isinstance(made, int) else standing_of(made)


def any_yards(rng, most):
    return rng.sample([(word, number) for word in ("a", "b") for number in range(8)], rng.randint(0, most))


def dealt(rng, names, spools):
    """A standing of such yards in any order, any way up."""
    rows = [[] for _ in range(spools)]
    for word, number in rng.sample(names, len(names)):
        rows[rng.randrange(spools)].append((word, number, rng.choice((1, -1))))
    return standing_of(rows)


def great_parts(rng, words, cuts):
    """Stretches of great numbers of yards, nearly 10 ** 18 of them."""
    parts = []
    each = GREAT // len(words)
    for word in words:
        first = rng.randint(0, 5)
        marks = sorted({0, each, *[rng.randrange(each) for _ in range(cuts)]})
        parts += [(word, first + a, b - a, 1) for a, b in zip(marks, marks[1:])]
    return parts


def great_standing(rng, parts, spools):
    rows = [[] for _ in range(spools)]
    for part in rng.sample(parts, len(parts)):
        rows[rng.randrange(spools)] += [part] if rng.random() < 0.5 else turned([part])
    return tuple(tuple(joined(row)) for row in rows)


def any_steps(rng, spools, most):
    steps = []
    for _ in range(rng.randint(0, 8)):
        a, b = rng.sample(range(spools), 2)
        steps.append(rng.choice([("wind", a, b, rng.randint(1, most)), ("wind", a, b, 1), ("turn", a), ("swap", a, b)]))
    return steps


class IsStanding(unittest.TestCase):
    def test_such(self):
        for standing in (
            ONE, TWO, ((), ()), ((),) * 6, ((), (), (("z", GREAT, 1, -1),)), ((("a", 1, GREAT, 1),), ()), ((("a", GREAT, GREAT, -1),), ()),
            ((("a", 0, GREAT - 1, 1),), (("b", 0, 1, 1),)), ((("a", 0, 2, 1), ("a", 3, 1, 1)), ()), ((("a", 0, 2, 1), ("a", 2, 1, -1)), ()),
            ((("a", 0, 2, 1),), (("a", 2, 2, 1),)), ((("a", 0, 2, 1), ("b", 2, 2, 1)), (("b", 0, 2, 1), ("a", 2, 2, 1))),
            ((("a", 1, 2, -1), ("a", 2, 1, 1)), (("a", 3, 2, 1),)),
        ):
            self.assertIs(is_standing(standing), True)
        self.assertIs(is_standing(thing=ONE), True)

    def test_yards_twice(self):
        for standing in (
            ((("a", 0, 2, 1), ("a", 1, 2, -1)), ()), ((("a", 0, 2, 1),), (("a", 1, 2, 1),)), ((("a", 0, 5, 1),), (("a", 2, 1, -1),)),
            ((("a", 2, 1, 1),), (), (("a", 4, 5, -1),)), ((("a", 2, 1, 1), ("b", 0, 1, 1), ("a", 2, 1, 1)), ()),
            ((("a", 0, GREAT // 2, 1),), (("a", GREAT // 2 - 1, 1, 1),)), ((("a", 0, 3, 1), ("b", 0, 2, 1)), (("a", 5, 1, 1), ("b", 1, 1, 1))),
            ((("a", 0, 9, 1), ("a", 1, 1, 1), ("a", 9, 1, 1)), ()),
        ):
            self.assertIs(is_standing(standing), False)

    def test_too_many_yards(self):
        for standing in (
            ((("a", 0, GREAT, 1),), (("b", 0, 1, 1),)), ((("a", 0, GREAT + 1, 1),), ()), ((("a", 0, GREAT, 1), ("b", 0, GREAT, 1)), ()),
            ((("a", 0, GREAT // 2, 1),), (("b", 0, GREAT // 2, 1),), (("c", 0, 1, 1),)),
        ):
            self.assertIs(is_standing(standing), False)

    def test_rows_that_are_not_in_their_one_form(self):
        for row in (
            (("a", 0, 1, 1), ("a", 1, 1, 1)), (("a", 4, 2, -1), ("a", 2, 1, -1)), (("b", 0, 1, 1), ("a", 0, 3, 1), ("a", 3, 1, 1)),
        ):
            self.assertIs(is_standing((row, ())), False)
            self.assertIs(is_standing(((), row)), False)
            self.assertIs(is_standing((tuple(joined(row)), ())), True)

    def test_kinds_and_sizes(self):
        for standing in (
            [(), ()], ((), []), ([], ()), ((),), (), ((),) * 7, (([("a", 0, 1, 1)]), ()), ((["a", 0, 1, 1],), ()), ((("a", 0, 1, 1, 1),), ()),
            ((("a", 0, 1),), ()), ((("a", -1, 1, 1),), ()), ((("a", 0, 0, 1),), ()), ((("a", 0, 1, 0),), ()), ((("a", 0, 2, -1),), ()),
            ((("A", 0, 1, 1),), ()), ((("a", True, 1, 1),), ()), ((("a", 0, True, 1),), ()), ((("a", 0, 1, True),), ()), ((("a", HUGE, 1, 1),), ()),
            ((("a", 0, HUGE, 1),), ()), ("", ""), ((), None), ("ab", ()), {(): (), "a": ()}, ((("a", GREAT, 2, 1),), ()), ((("a", 0, 1, None),), ()),
        ):
            self.assertIs(is_standing(standing), False)

    def test_of_anything(self):
        for thing in [*anything(), deep(20000)]:
            self.assertIs(is_standing(thing), False)
            for standing in ((thing, ()), ((), thing), (*ONE, thing)):
                self.assertIs(is_standing(standing), same(thing, ()) or same(thing, (("a", 0, 1, 1),)))
            self.assertIs(is_standing(((thing,), ())), same(thing, ("a", 0, 1, 1)))
            for place in range(4):
                told = ("a", 0, 1, 1)
                other = told[:place] + (thing,) + told[place + 1:]
                if place == 0:
                    fits = is_word(thing)
                else:
                    fits = type(thing) is int and (0 <= thing <= GREAT if place == 1 else 1 <= thing <= GREAT if place == 2 else thing in (1, -1))
                self.assertIs(is_standing(((other,), ())), fits)


class Wound(unittest.TestCase):
    def test_against_yards_one_by_one(self):
        rng = some("wound")
        kinds = {}
        for _ in range(600):
            spools = rng.randint(2, 6)
            standing = dealt(rng, any_yards(rng, 12), spools)
            steps = any_steps(rng, spools if rng.random() < 0.9 else 6, 5)
            told = walked(standing, steps)
            kinds[type(told)] = kinds.get(type(told), 0) + 1
            if isinstance(told, int):
                error = refusal(wound, standing, steps)
                self.assertIs(type(error), TooFew)
                self.assertIsInstance(error, ArithmeticError)
                self.assertTrue(same(error.at, told))
            else:
                self.assertTrue(same(wound(standing, steps), told))
                self.assertTrue(same(wound(standing, tuple(steps)), told))
                self.assertIs(is_standing(told), True)
        self.assertGreater(min(kinds.values()), 100)

    def test_told_ones(self):
        for standing, steps, told in (
            (ONE, [], ONE), (((), ()), [("turn", 1), ("swap", 0, 1)], ((), ())), (TWO, [("swap", 1, 0)], (TWO[1], TWO[0])),
            (TWO, [("wind", 0, 1, 2)], ((("a", 2, 3, 1),), (("a", 1, 2, -1), ("b", 0, 3, 1), ("a", 9, 1, -1)))),
            (TWO, [("wind", 1, 0, 4), ("turn", 0)], ((("a", 4, 5, -1), ("b", 0, 3, 1), ("a", 9, 1, -1)), ())),
        ):
            self.assertTrue(same(wound(standing, steps), told))
        self.assertEqual(wound(standing=TWO, steps=[("swap", 0, 1)]), TWO[::-1])

    def test_steps_that_cannot_be(self):
        good = [("wind", 0, 1, 2), ("turn", 2), ("swap", 1, 2)]
        for bad in (("wind", 1, 0, 99), ("wind", 0, 3, 1), ("wind", 3, 0, 1), ("turn", 3), ("swap", 0, 3), ("swap", 5, 1), ("wind", 0, 1, GREAT)):
            for at in range(4):
                error = refusal(wound, ONE, [*good[:at], bad, *good[at:], ("turn", 5)])
                self.assertIs(type(error), TooFew)
                self.assertTrue(same(error.at, at))
        many = [("wind", 0, 1, 1), ("wind", 1, 0, 1)] * 200
        self.assertEqual(wound(ONE, many), ONE)
        self.assertEqual(refusal(wound, ONE, [*many, ("turn", 4)]).at, 400)

    def test_great_ones(self):
        most = ((("a", 1, GREAT, 1),), (), ())
        self.assertEqual(wound(most, [("wind", 0, 2, GREAT)]), ((), (), (("a", GREAT, GREAT, -1),)))
        self.assertEqual(
            wound(most, [("wind", 0, 2, 7), ("wind", 0, 1, GREAT - 7), ("wind", 2, 1, 7)]),
            ((), (("a", 1, 7, 1), ("a", GREAT, GREAT - 7, -1)), ()),
        )
        self.assertEqual(refusal(wound, most, [("turn", 0), ("wind", 1, 0, 1)]).at, 1)

    def test_what_is_handed_in_stays(self):
        steps = [("swap", 0, 1), ("turn", 0)]
        wound(ONE, steps)
        self.assertEqual(steps, [("swap", 0, 1), ("turn", 0)])


class WayThere(unittest.TestCase):
    def check(self, one, other):
        steps = way_there(one, other)
        self.assertIs(type(steps), list)
        for step in steps:
            self.assertIs(type(step), tuple)
            self.assertEqual(step[0], "wind")
            self.assertGreaterEqual(step[3], 1)
        self.assertEqual(wound(one, steps), other)
        return steps

    def test_three_spools_and_more(self):
        rng = some("way there")
        for _ in range(400):
            names = any_yards(rng, 14)
            spools = rng.randint(3, 6)
            self.check(dealt(rng, names, spools), dealt(rng, names, spools))

    def test_told_ones(self):
        none = ((), (), ())
        self.assertEqual(way_there(none, none), [])
        about_it = ((("red", 4, 5, -1), ("blue", 9, 3, -1)), (("red", 7, 2, 1),), ())
        for one, other in ((ONE, ONE), (ONE, about_it), (about_it, ONE), (ONE, (ONE[2], ONE[0], ONE[1]))):
            self.check(one, other)
        single = ((("a", 5, 1, 1),), (), ())
        for spool, way in itertools.product(range(3), (1, -1)):
            self.check(single, tuple((("a", 5, 1, way),) if k == spool else () for k in range(3)))
        self.assertEqual(wound(ONE, way_there(one=ONE, other=about_it)), about_it)

    def test_two_spools(self):
        across = joined([*turned(TWO[0]), *TWO[1]])
        for many in range(yards(across) + 1):
            steps = [("wind", 1, 0, many - 5)] if many > 5 else [("wind", 0, 1, 5 - many)] if many < 5 else []
            other = wound(TWO, steps)
            self.assertTrue(same(way_there(TWO, other), steps))
            self.check(other, TWO)
        for other in (
            TWO[::-1], ((("a", 4, 5, -1),), TWO[1]), (TWO[0], (("a", 9, 1, -1), ("b", 0, 3, 1))), (TWO[0], (("b", 0, 3, 1), ("a", 9, 1, 1))),
        ):
            self.assertIsNone(way_there(TWO, other))
            self.assertIsNone(way_there(other, TWO))
        self.assertEqual(way_there(((), ()), ((), ())), [])
        one = ((("a", 1, 1, 1),), ())
        for other, told in ((one, []), (((), (("a", 1, 1, -1),)), [("wind", 0, 1, 1)]), (((), (("a", 1, 1, 1),)), None), (((("a", 1, 1, -1),), ()), None)):
            self.assertTrue(same(way_there(one, other), told))

    def test_two_spools_against_all_windings(self):
        rng = some("two spools")
        kinds = {}
        for _ in range(200):
            names = any_yards(rng, 3)
            one, other = dealt(rng, names, 2), dealt(rng, names, 2)
            near = {one: []}
            for a, b in ((0, 1), (1, 0)):
                for many in range(1, yards(one[a]) + 1):
                    near[wound(one, [("wind", a, b, many)])] = [("wind", a, b, many)]
            self.assertTrue(same(way_there(one, other), near.get(other)))
            kinds[other in near] = kinds.get(other in near, 0) + 1
        self.assertGreater(min(kinds.values()), 20)

    def test_great_ones(self):
        rng = some("great standings")
        for spools in (3, 4, 6):
            parts = great_parts(rng, ("a", "b", "c"), 6)
            for _ in range(3):
                one, other = great_standing(rng, parts, spools), great_standing(rng, parts, spools)
                self.assertIs(is_standing(one), True)
                self.check(one, other)
        # Cut, dealt and turned anew, at other places.
        one = great_standing(rng, great_parts(some("cut"), ("a", "b"), 8), 6)
        least = {}
        for word, first, many, way in itertools.chain(*one):
            least[word] = min(least.get(word, GREAT), first, first + (many - 1) * way)
        marks = [0, 5, 77, GREAT // 5, GREAT // 3, GREAT // 2]
        parts = [(word, least[word] + a, b - a, 1) for word in ("a", "b") for a, b in zip(marks, marks[1:])]
        self.assertLess(len(self.check(one, great_standing(rng, parts, 6))), 300)
        two = ((("a", 0, GREAT - 5, 1),), (("b", 0, 5, 1),))
        self.assertEqual(way_there(two, wound(two, [("wind", 0, 1, GREAT // 3)])), [("wind", 0, 1, GREAT // 3)])

    def test_what_is_told_is_new(self):
        way_there(ONE, (ONE[2], ONE[0], ONE[1])).clear()
        self.check(ONE, (ONE[2], ONE[0], ONE[1]))


class Fewest(unittest.TestCase):
    @classmethod
    def setUpClass(cls):
        cls.rng = some("fewest")

    def levels(self, one):
        """All standings that windings lead to, by the least number of windings, wound yard by yard."""
        far = {one: 0}
        ahead = [one]
        while ahead:
            found = []
            for standing in ahead:
                rows = [singly(row) for row in standing]
                for a, b in itertools.permutations(range(len(rows)), 2):
                    for many in range(1, len(rows[a]) + 1):
                        made = list(rows)
                        made[a] = rows[a][many:]
                        made[b] = [about(yard) for yard in reversed(rows[a][:many])] + rows[b]
                        told = standing_of(made)
                        if told not in far:
                            far[told] = far[standing] + 1
                            found.append(told)
            ahead = found
        return far

    def check(self, one, other, many):
        steps = fewest(one, other)
        if many is None:
            self.assertIsNone(steps)
            return
        self.assertIs(type(steps), list)
        self.assertEqual(len(steps), many)
        self.assertTrue(all(step[0] == "wind" for step in steps))
        self.assertEqual(wound(one, steps), other)

    def test_against_all_windings(self):
        for spools, most in ((2, 4), (3, 3)):
            for _ in range(8):
                names = any_yards(self.rng, most)
                one = dealt(self.rng, names, spools)
                far = self.levels(one)
                for _ in range(25):
                    other = dealt(self.rng, names, spools)
                    self.check(one, other, far.get(other))
        one = ((("a", 0, 4, 1),), (), ())
        far = self.levels(one)
        # Four yards, on three spools, in any order, any way up.
        self.assertEqual(len(far), 15 * 24 * 16)
        rng = some("all of four")
        farthest = max(far.values())
        for other in [*rng.sample(sorted(far), 20), *[other for other in far if far[other] == farthest][:3]]:
            self.check(one, other, far[other])

    def test_told_ones(self):
        one = ((("a", 0, 4, 1),), (), ())
        for other, many in (
            (one, 0), (((), (("a", 3, 4, -1),), ()), 1), (((), (("a", 0, 4, 1),), ()), 2), (((("a", 3, 4, -1),), (), ()), 3),
            (((), (("a", 1, 2, -1),), (("a", 3, 2, -1),)), 2),
        ):
            self.check(one, other, many)
        two = ((("a", 0, 2, 1),), (("b", 7, 2, -1),))
        for other, many in ((two, 0), (wound(two, [("wind", 1, 0, 2)]), 1), (two[::-1], None)):
            self.check(two, other, many)
        for none in (((), ()), ((), (), ())):
            self.check(none, none, 0)
        self.assertEqual(fewest(one=two, other=two), [])

    def test_great_numbers(self):
        one = ((("a", GREAT, 2, -1),), (("b", GREAT - 3, 1, 1),), ())
        self.check(one, wound(one, [("wind", 0, 2, 1), ("wind", 1, 2, 1)]), 2)

    def test_too_many(self):
        five = ((("a", 0, 5, 1),), ())
        for one, many in ((five, 5), ((*five, ()), 5), ((*five, (), ()), 5), (((("a", 0, 4, 1),), (), (), ()), 4), (((),) * 4, 0), (((),) * 6, 0),
                          (((("a", 1, GREAT, 1),), ()), GREAT)):
            error = refusal(fewest, one, one)
            self.assertIs(type(error), TooMany)
            self.assertIsInstance(error, RuntimeError)
            self.assertTrue(same(error.many, many))
        other = ((("a", 0, 4, 1),), (("a", 4, 1, 1),))
        self.assertIs(type(refusal(fewest, five, other)), TooMany)

    def test_what_is_told_is_new(self):
        one, other = ((("a", 0, 4, 1),), (), ()), ((), (), (("a", 3, 4, -1),))
        fewest(one, other).clear()
        self.check(one, other, 1)


class NoStandings(unittest.TestCase):
    def test_of_anything(self):
        for asked in (way_there, fewest):
            for thing in [*anything(), deep(20000), list(ONE), ((),), (ONE[0], ONE[0]), ((("a", 0, 1, 1), ("a", 1, 1, 1)), ())]:
                for one, other, part in ((thing, ONE, "one"), (ONE, thing, "other"), (thing, thing, "one"), (((),) * 6, thing, "other")):
                    error = refusal(asked, one, other)
                    self.assertIs(type(error), NoStanding)
                    self.assertIsInstance(error, ValueError)
                    self.assertEqual(error.part, part)

    def test_unlike_yards(self):
        for one, other in (
            (ONE, TWO), (ONE, ONE[:2]), (ONE, (*ONE, ())), (((), ()), ((), (), ())), (((("a", 0, 1, 1),), ()), ((), ())),
            (((("a", 0, 2, 1),), ()), ((("a", 0, 3, 1),), ())), (((("a", 0, 2, 1),), ()), ((("a", 1, 2, 1),), ())),
            (((("a", 0, 2, 1),), ()), ((("b", 0, 2, 1),), ())), (((("a", 0, 2, 1),), ()), ((("a", 0, 1, 1),), (("b", 1, 1, 1),))),
            (((("a", 0, 5, 1),), ()), ((("a", 0, 2, 1), ("a", 3, 2, 1)), (("a", 5, 1, 1),))),
            (((("a", 0, GREAT, 1),), (), (), ()), ((("a", 1, GREAT, 1),), (), (), ())),
        ):
            for asked in (way_there, fewest):
                for error in (refusal(asked, one, other), refusal(asked, other, one)):
                    self.assertIs(type(error), NoStanding)
                    self.assertEqual(error.part, "yards")


if __name__ == "__main__":
    unittest.main()
