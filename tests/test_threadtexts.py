import copy
import itertools
import unittest

from spoolrounds.errors import NoText
from spoolrounds.threads import joined
from spoolrounds.threadtexts import read_row, show_row
from test_threads import FEW, LONG, ROWS
from things import GREAT, anything, deep, refusal, same

TEXTS = [
    ([], "none"),
    ([("a", 0, 1, 1)], "a 0+"),
    ([("a", 0, 1, -1)], "a 0-"),
    ([("a", 0, 2, 1)], "a 0..1"),
    ([("a", 1, 2, -1)], "a 1..0"),
    ([("none", 5, 1, 1)], "none 5+"),
    ([("abcdefgh", 10, 90, 1)], "abcdefgh 10..99"),
    ([("a", 0, GREAT + 1, 1)], f"a 0..{GREAT}"),
    ([("a", GREAT, GREAT + 1, -1)], f"a {GREAT}..0"),
    ([("a", GREAT, 1, 1)], f"a {GREAT}+"),
    ([("a", GREAT, 1, -1), ("a", GREAT, 1, 1)], f"a {GREAT}-, a {GREAT}+"),
    ([("a", 5, 1, 1), ("a", 4, 1, -1), ("b", 3, 7, 1)], "a 5+, a 4-, b 3..9"),
    ([("a", 3, 2, 1), ("a", 6, 2, 1), ("a", 7, 2, 1)], "a 3..4, a 6..7, a 7..8"),
]

BAD_TEXTS = [
    "", " ", "None", "NONE", " none", "none ", "none\n", "none, none", "none, a 1+", "a 1+, none", "none none",
    "a", "a ", "a+", "a 5", "a +", "a -", "a 5 +", "a  5+", " a 5+", "a 5+ ", "a 5+\n", "a 5\n+", "\na 5+", "a\n5+",
    "A 5+", "abcdefghi 5+", "a1 5+", "5+", " 5+", "a-b 5+",
    "a 05+", "a 00+", "a -0+", "a +5+", "a -5+", "a 5++", "a 5--", "a 5+-", "a 5*", "a 1_0+", "a 5.0+",
    "a 5..5", "a 0..0", "a 5..", "a ..5", "a ..", "a 5...6", "a 5..6..7", "a 5.6", "a 5 .. 6", "a 05..6", "a 5..06",
    "a 5..6+", "a 5..6-", "a -1..5", "a 5..-1", "a 5..+6", "a 5, ", "a 5..x", "a x..5",
    "a 5+,b 5+", "a 5+,  b 5+", "a 5+ , b 5+", "a 5+; b 5+", "a 5+, ", ", a 5+", ", ", "a 5+, , b 5+", "a 5+\nb 5+",
    "a 5+, a 6+", "a 6-, a 5-", "a 3..5, a 6..7", "a 3..5, a 6+", "a 2+, a 3..5", "a 9..8, a 7..5", "a 9..8, a 7-",
    "b 1+, a 3..5, a 6+", "a 5+, b 1+, b 2+",
    f"a {GREAT + 1}+", f"a {GREAT + 1}-", f"a 0..{GREAT + 1}", f"a {GREAT + 1}..0", f"a {GREAT}..{GREAT + 1}",
    f"a {10 ** 999}+", "a " + "9" * 20000 + "+", "a 0.." + "1" * 20000, "a " + "0" * 30 + "5+",
    "a \u0665+", "a \u00b2+", "\u00e4 5+",
]


class Shown(unittest.TestCase):
    def test_texts(self):
        for row, text in TEXTS:
            with self.subTest(text):
                self.assertTrue(same(show_row(row), text))
                self.assertTrue(same(show_row(tuple(row)), text))
                self.assertEqual(show_row(row=row), text)

    def test_shown_in_the_one_form(self):
        self.assertEqual(show_row([("a", 3, 1, 1), ("a", 4, 2, 1)]), "a 3..5")
        self.assertEqual(show_row([("a", 1, 1, -1), ("a", 0, 1, -1), ("a", 1, 1, 1)]), "a 1..0, a 1+")
        for row in ROWS:
            self.assertEqual(show_row(row), show_row(joined(row)))

    def test_nothing_is_changed(self):
        row = [("a", 3, 1, 1), ("a", 4, 2, 1)]
        before = copy.deepcopy(row)
        show_row(row)
        self.assertEqual(row, before)


class Read(unittest.TestCase):
    def test_texts(self):
        for row, text in TEXTS:
            with self.subTest(text):
                self.assertTrue(same(read_row(text), row))
                self.assertEqual(read_row(text=text), row)

    def test_there_and_back(self):
        for row in [*ROWS, LONG]:
            self.assertTrue(same(read_row(show_row(row)), joined(row)))

    def test_only_what_is_shown_is_read(self):
        for parts in itertools.product([show_row([stretch]) for stretch in FEW], repeat=3):
            text = ", ".join(parts)
            error = refusal(read_row, text)
            if error is None:
                self.assertEqual(show_row(read_row(text)), text)
            else:
                self.assertIs(type(error), NoText)
                row = [read_row(part)[0] for part in parts]
                self.assertLess(len(joined(row)), 3)

    def test_each_short_text_of_its_signs(self):
        read = set()
        for many in range(7):
            for signs in itertools.product("a 0.1", repeat=many):
                text = "".join(signs)
                if refusal(read_row, text) is None:
                    read.add(text)
        self.assertEqual(read, {"a 0..1", "a 1..0"})
        ends = set()
        for many in range(6):
            for signs in itertools.product("a 01-+", repeat=many):
                text = "".join(signs)
                if refusal(read_row, text) is None:
                    ends.add(text)
        numbers = ("0", "1", "10", "11")
        spoken = {f"a {number}{sign}" for number in numbers for sign in "+-"}
        spoken |= {f"aa {number}{sign}" for number in ("0", "1") for sign in "+-"}
        self.assertEqual(ends, spoken)

    def test_told_lists_are_new(self):
        for text in ("none", "a 5+"):
            read_row(text).append("changed")
            self.assertNotIn("changed", read_row(text))


class Refused(unittest.TestCase):
    def check(self, asked):
        error = refusal(read_row, asked)
        self.assertIs(type(error), NoText)
        self.assertIsInstance(error, ValueError)
        return error.asked

    def test_texts(self):
        for text in BAD_TEXTS:
            with self.subTest(text[:40]):
                self.assertEqual(self.check(text), text)

    def test_of_anything(self):
        for thing in [thing for thing in anything() if thing != "none"]:
            with self.subTest(str(thing)[:40]):
                self.assertTrue(same(self.check(thing), thing))
        self.assertIsInstance(self.check(deep(20000)), list)

    def test_what_was_asked_may_change(self):
        asked = ["a 5+", {"k": [1]}]
        error = refusal(read_row, asked)
        asked[1]["k"].append(2)
        asked.pop()
        self.assertEqual(error.asked, ["a 5+", {"k": [1]}])


if __name__ == "__main__":
    unittest.main()
