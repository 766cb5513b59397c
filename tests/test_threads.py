import copy
import itertools
import unittest

from spoolrounds.errors import NoSpot
from spoolrounds.threads import find, is_row, is_stretch, is_word, joined, parted, turned, yard, yards
from things import GREAT, HUGE, WORDS, anything, deep, refusal, same

# Stretches of few yards that can go on one another by either way, and yards of
# either way, of which rows are made below in every order.
FEW = [
    ("a", 0, 1, 1), ("a", 0, 1, -1), ("a", 1, 1, 1), ("a", 1, 1, -1), ("a", 1, 2, 1), ("a", 2, 2, -1),
    ("a", 3, 1, 1), ("b", 1, 1, 1), ("b", 0, 2, 1),
]
ROWS = [list(row) for many in range(4) for row in itertools.product(FEW, repeat=many)]

# More yards than anybody can walk one by one.
LONG = [("a", 0, GREAT + 1, 1), ("b", GREAT, GREAT + 1, -1), ("c", 5, 3, 1), ("a", 7, 1, -1)]
LONG_YARDS = 2 * GREAT + 6


def walked(row):
    """All yards of a row, one by one, the topmost first."""
    return [(word, first + k * way, way) for word, first, many, way in row for k in range(many)]


def one_form(listed):
    """The row of yards in its one form, made yard by yard."""
    out = []
    for word, number, way in listed:
        if out:
            name, first, many, its_way = out[-1]
            if (name, its_way) == (word, way) and number == first + many * way:
                out[-1] = (name, first, many + 1, way)
                continue
        out.append((word, number, 1, way))
    return out


class Words(unittest.TestCase):
    def test_words(self):
        for word in ("a", "z", "az", "none", "abcdefgh", "zzzzzzzz"):
            self.assertIs(is_word(word), True)

    def test_no_words(self):
        for thing in ("", "abcdefghi", "A", "aB", "a1", "a b", " a", "a ", "a\n", "\n", "`", "{", "a-", "a" * 5000):
            with self.subTest(thing[:20]):
                self.assertIs(is_word(thing), False)

    def test_of_anything(self):
        for thing in [*anything(), deep(20000)]:
            told = isinstance(thing, str) and thing in WORDS
            self.assertIs(is_word(thing), told)


class Stretches(unittest.TestCase):
    def test_stretches(self):
        for stretch in (
            ("a", 0, 1, 1), ("a", 0, 1, -1), ("abcdefgh", 5, 6, -1), ("a", GREAT, 1, 1), ("a", GREAT, 1, -1),
            ("a", 0, GREAT + 1, 1), ("a", GREAT, GREAT + 1, -1), ("a", 1, GREAT, 1), ("a", GREAT - 1, 2, 1),
        ):
            with self.subTest(stretch):
                self.assertIs(is_stretch(stretch), True)

    def test_no_stretches_by_their_numbers(self):
        for stretch in (
            ("a", -1, 1, 1), ("a", -1, 2, 1), ("a", 0, 2, -1), ("a", 5, 7, -1), ("a", GREAT + 1, 1, 1),
            ("a", GREAT + 1, 2, -1), ("a", GREAT, 2, 1), ("a", 0, GREAT + 2, 1), ("a", GREAT, GREAT + 2, -1),
            ("a", 0, 0, 1), ("a", 5, 0, -1), ("a", 0, -1, 1), ("a", 5, -3, -1),
            ("a", 0, 1, 0), ("a", 0, 1, 2), ("a", 5, 1, -2), ("a", HUGE, 1, 1), ("a", 0, HUGE, 1), ("a", 0, 1, HUGE),
        ):
            with self.subTest(str(stretch)[:40]):
                self.assertIs(is_stretch(stretch), False)

    def test_no_stretches_by_their_kind(self):
        for stretch in (
            ["a", 0, 1, 1], ("a", 0, 1), ("a", 0, 1, 1, 1), (), ("A", 0, 1, 1), ("", 0, 1, 1),
            ("a", True, 1, 1), ("a", False, 1, 1), ("a", 0, True, 1), ("a", 0, 1, True), (("a",), 0, 1, 1),
        ):
            with self.subTest(stretch):
                self.assertIs(is_stretch(stretch), False)

    def test_of_anything(self):
        for thing in [*anything(), deep(20000)]:
            self.assertIs(is_stretch(thing), thing == ("a", 0, 1, 1))

    def test_of_anything_in_each_place(self):
        whole = ("abc", 1, 2, 1)
        fitting = (
            lambda thing: is_word(thing),
            lambda thing: type(thing) is int and 0 <= thing <= GREAT - 1,
            lambda thing: type(thing) is int and 1 <= thing <= GREAT,
            lambda thing: type(thing) is int and thing in (1, -1),
        )
        for at in range(4):
            for thing in anything():
                stretch = whole[:at] + (thing,) + whole[at + 1:]
                with self.subTest(str(stretch)[:60]):
                    self.assertIs(is_stretch(stretch), fitting[at](thing))


class AreRows(unittest.TestCase):
    def test_rows(self):
        for row in ([], [("a", 0, 1, 1)], LONG, [("a", 0, 1, 1), ("a", 1, 1, 1)], [("a", 3, 1, 1)] * 3):
            self.assertIs(is_row(row), True)
            self.assertIs(is_row(tuple(row)), True)

    def test_no_rows(self):
        good = ("a", 0, 1, 1)
        for bad in [thing for thing in anything() if thing != good]:
            for row in ([bad], [good, bad], [bad, good], (bad,), [good, good, bad]):
                with self.subTest(str(row)[:60]):
                    self.assertIs(is_row(row), False)

    def test_of_anything(self):
        for thing in [*anything(), deep(20000)]:
            told = isinstance(thing, (list, tuple)) and list(thing) in ([], [("a", 0, 1, 1)])
            self.assertIs(is_row(thing), told)


class Asked(unittest.TestCase):
    """What is asked of rows, against the same yard by yard."""

    def test_joined(self):
        for row in ROWS:
            told = joined(row)
            self.assertEqual(told, one_form(walked(row)))
            self.assertIs(is_row(told), True)

    def test_joined_goes_on_by_either_way(self):
        self.assertEqual(joined([("a", 3, 2, 1), ("a", 5, 4, 1)]), [("a", 3, 6, 1)])
        self.assertEqual(joined([("a", 9, 2, -1), ("a", 7, 8, -1)]), [("a", 9, 10, -1)])
        self.assertEqual(joined([("a", 5, 1, -1), ("a", 4, 1, -1)]), [("a", 5, 2, -1)])
        self.assertEqual(joined([("a", 1, 1, 1), ("a", 2, 1, 1), ("a", 3, 1, 1)]), [("a", 1, 3, 1)])

    def test_joined_keeps_apart(self):
        for row in (
            [("a", 5, 1, 1), ("a", 4, 1, -1)], [("a", 4, 1, -1), ("a", 5, 1, 1)], [("a", 5, 1, 1), ("a", 4, 1, 1)],
            [("a", 5, 1, -1), ("a", 6, 1, -1)], [("a", 5, 1, 1), ("b", 6, 1, 1)], [("a", 5, 1, 1), ("a", 7, 1, 1)],
            [("a", 5, 1, 1), ("a", 5, 1, 1)],
        ):
            self.assertEqual(joined(row), row)

    def test_yards(self):
        self.assertEqual(yards([]), 0)
        self.assertEqual(yards(LONG), LONG_YARDS)
        for row in ROWS:
            self.assertEqual(yards(row), len(walked(row)))

    def test_turned(self):
        for row in ROWS:
            about = [(word, number, -way) for word, number, way in reversed(walked(row))]
            self.assertEqual(turned(row), one_form(about))
            self.assertEqual(turned(turned(row)), joined(row))

    def test_turned_stretches(self):
        self.assertEqual(turned([]), [])
        self.assertEqual(turned([("a", 3, 4, 1)]), [("a", 6, 4, -1)])
        self.assertEqual(turned([("a", 0, 1, -1)]), [("a", 0, 1, 1)])
        self.assertEqual(
            turned(LONG), [("a", 7, 1, 1), ("c", 7, 3, -1), ("b", 0, GREAT + 1, 1), ("a", GREAT, GREAT + 1, -1)]
        )

    def test_parted(self):
        for row in ROWS:
            listed = walked(row)
            for at in range(len(listed) + 1):
                self.assertEqual(parted(row, at), (one_form(listed[:at]), one_form(listed[at:])))

    def test_parted_far_down(self):
        self.assertEqual(parted(LONG, 0), ([], LONG))
        self.assertEqual(parted(LONG, LONG_YARDS), (LONG, []))
        self.assertEqual(parted(LONG, GREAT + 1), (LONG[:1], LONG[1:]))
        self.assertEqual(
            parted(LONG, GREAT + 3),
            ([LONG[0], ("b", GREAT, 2, -1)], [("b", GREAT - 2, GREAT - 1, -1), *LONG[2:]]),
        )
        self.assertEqual(parted([], 0), ([], []))

    def test_yard(self):
        for row in ROWS:
            listed = walked(row)
            self.assertEqual([yard(row, at) for at in range(len(listed))], listed)

    def test_yard_far_down(self):
        self.assertEqual(yard(LONG, GREAT), ("a", GREAT, 1))
        self.assertEqual(yard(LONG, GREAT + 1), ("b", GREAT, -1))
        self.assertEqual(yard(LONG, 2 * GREAT + 1), ("b", 0, -1))
        self.assertEqual(yard(LONG, LONG_YARDS - 1), ("a", 7, -1))

    def test_find(self):
        for row in ROWS:
            listed = walked(row)
            for word, number in itertools.product("abc", range(6)):
                told = [(at, way) for at, (name, k, way) in enumerate(listed) if (name, k) == (word, number)]
                self.assertEqual(find(row, word, number), told[0] if told else None)

    def test_find_far_down(self):
        self.assertEqual(find(LONG, "a", 7), (7, 1))
        self.assertEqual(find(LONG[1:], "a", 7), (GREAT + 4, -1))
        self.assertEqual(find(LONG, "b", 0), (2 * GREAT + 1, -1))
        self.assertEqual(find(LONG, "b", GREAT), (GREAT + 1, -1))
        self.assertEqual(find(LONG, "a", GREAT), (GREAT, 1))
        self.assertIsNone(find(LONG, "c", 4))
        self.assertIsNone(find(LONG, "c", 8))
        self.assertIsNone(find([], "a", 0))

    def test_tuples_do_for_lists(self):
        for row in [*ROWS[:100], LONG]:
            self.assertTrue(same(joined(tuple(row)), joined(row)))
            self.assertTrue(same(turned(tuple(row)), turned(row)))
            self.assertTrue(same(yards(tuple(row)), yards(row)))
            self.assertTrue(same(parted(tuple(row), yards(row)), parted(row, yards(row))))
            self.assertTrue(same(find(tuple(row), "a", 1), find(row, "a", 1)))
        self.assertTrue(same(yard(tuple(LONG), 3), ("a", 3, 1)))

    def test_by_names(self):
        self.assertIs(is_word(thing="a"), True)
        self.assertIs(is_stretch(thing=()), False)
        self.assertIs(is_row(thing=[]), True)
        self.assertEqual(joined(row=LONG), LONG)
        self.assertEqual(yards(row=LONG), LONG_YARDS)
        self.assertEqual(turned(row=[]), [])
        self.assertEqual(parted(row=[], at=0), ([], []))
        self.assertEqual(yard(row=LONG, at=0), ("a", 0, 1))
        self.assertEqual(find(row=LONG, word="c", number=5), (2 * GREAT + 2, 1))


class Refused(unittest.TestCase):
    def check(self, asked, row, at):
        error = refusal(asked, row, at)
        self.assertIs(type(error), NoSpot)
        self.assertIsInstance(error, IndexError)
        return error.asked

    def test_of_anything(self):
        for row in ([], [("a", 0, 1, 1)], [("a", 4, 2, 1), ("b", 0, 1, 1)], LONG, tuple(LONG)):
            all_of_it = sum(stretch[2] for stretch in row)
            for asked, most in ((parted, all_of_it), (yard, all_of_it - 1)):
                for at in [*anything(), most, most + 1]:
                    with self.subTest(asked=asked.__name__, at=str(at)[:40]):
                        if type(at) is int and 0 <= at <= most:
                            asked(row, at)
                        else:
                            self.assertTrue(same(self.check(asked, row, at), at))

    def test_nested_deep(self):
        for asked in (parted, yard):
            self.assertIsInstance(self.check(asked, LONG, deep(20000)), list)

    def test_what_was_asked_may_change(self):
        for asked in (parted, yard):
            at = [1, [2]]
            kept = refusal(asked, LONG, at)
            at[1].append(3)
            at.append(4)
            self.assertEqual(kept.asked, [1, [2]])


class Unchanged(unittest.TestCase):
    def test_nothing_handed_in_is_changed(self):
        for row in [*ROWS[:100], LONG]:
            before = copy.deepcopy(row)
            joined(row), turned(row), yards(row), parted(row, yards(row)), find(row, "a", 1), is_row(row)
            refusal(parted, row, -1)
            refusal(yard, row, yards(row))
            self.assertEqual(row, before)

    def test_told_lists_are_new(self):
        row = [("a", 0, 1, 1), ("b", 0, 1, 1)]
        for asked in (joined, turned, lambda row: parted(row, 2)[0], lambda row: parted(row, 0)[1]):
            first = asked(row)
            first.append("changed")
            row_now = list(row)
            second = asked(row)
            self.assertNotIn("changed", second)
            self.assertEqual(row, row_now)
            self.assertEqual(len(row), 2)
        top, rest = parted([], 0)
        top.append(1)
        self.assertEqual(rest, [])
        self.assertEqual(joined([]), [])

    def test_kinds(self):
        for asked in (joined, turned):
            self.assertIs(type(asked(tuple(LONG))), list)
            self.assertEqual({type(stretch) for stretch in asked(LONG)}, {tuple})
        told = parted(tuple(LONG), 5)
        self.assertEqual([type(told), type(told[0]), type(told[1])], [tuple, list, list])
        self.assertIs(type(yard(LONG, 0)), tuple)
        self.assertIs(type(find(LONG, "a", 0)), tuple)


if __name__ == "__main__":
    unittest.main()
