import unittest

from spoolrounds.errors import NoText
from spoolrounds.rounds import is_round
from spoolrounds.roundtexts import read_round, show_round
from things import GREAT, anything, deep, refusal, same
from walks import some

TOLD = (
    ((), "none"),
    ((("wind", 0, 1, 1),), "wind 0 1 1"),
    ((("wind", 5, 0, GREAT),), "wind 5 0 1000000000000000000"),
    ((("turn", 0),), "turn 0"),
    ((("turn", 5),), "turn 5"),
    ((("swap", 4, 2),), "swap 4 2"),
    ((("do", "a", 0),), "do a 0"),
    ((("do", "abcdefgh", -9),), "do abcdefgh -9"),
    ((("do", "z", 9),), "do z 9"),
    ((("do", "none", 1), ("do", "wind", 1), ("do", "turn", 2), ("do", "swap", 3), ("do", "do", -1)), "do none 1; do wind 1; do turn 2; do swap 3; do do -1"),
    ((("wind", 0, 1, 5), ("turn", 2), ("swap", 0, 2), ("do", "over", -2)), "wind 0 1 5; turn 2; swap 0 2; do over -2"),
    ((("turn", 3),) * 24, "; ".join(["turn 3"] * 24)),
)
NO_TEXTS = (
    "", " ", "None", "none ", " none", "none; turn 0", "turn 0; none", "turn", "turn ", "turn  0", "turn 0 ", " turn 0", "turn 0;", "turn 0; ", "; turn 0",
    "turn 0;turn 1", "turn 0 ; turn 1", "turn 0;  turn 1", "turn 0, turn 1", "turn 0\nturn 1", "turn 0\n", "turn 00", "turn 01", "turn +1", "turn -0", "turn -1",
    "turn 6", "turn 1 2", "turn a", "turn 0.", "Turn 0", "TURN 0", "turns 0", "wind", "wind 0 1", "wind 0 1 ", "wind 0 1 0", "wind 0 0 1", "wind 0 6 1",
    "wind 6 0 1", "wind 0 1 05", "wind 0 1 5 5", "wind 0  1 5", "wind 0 1 -5", "wind 0 1 1000000000000000001", "wind 0 1 10000000000000000000", "wind 0 1 +5",
    "wind 0,1,5", "wind 0 1 5_0", "wind 0 1 x", "wind -1 1 5", "wind 00 1 5", "swap 0", "swap 0 0", "swap 0 6", "swap 0 1 2", "swap 0 01", "swap 0 -1", "swap a b",
    "do", "do a", "do a ", "do a 10", "do a -10", "do a +1", "do a 01", "do a -0", "do a --1", "do a - 1", "do a 1 1", "do A 1", "do a1 1", "do abcdefghi 1",
    "do  1", "do 1", "do 1 a", "do a a", "do a -", "; ".join(["turn 3"] * 25), "wind 0 1 " + "9" * 900, "do a " + "0" * 50, "do a " + "-" * 50, "go a 1", "put 0 none",
)


class Texts(unittest.TestCase):
    def test_told_ones(self):
        for steps, text in TOLD:
            self.assertIs(is_round(steps), True)
            self.assertTrue(same(show_round(steps), text))
            self.assertTrue(same(read_round(text), steps))
        self.assertEqual(show_round(steps=()), "none")
        self.assertEqual(read_round(text="none"), ())

    def test_any_ones(self):
        rng = some("round texts")
        for _ in range(300):
            steps = []
            for _ in range(rng.randint(0, 24)):
                a, b = rng.sample(range(6), 2)
                word = "".join(rng.choice("abyz") for _ in range(rng.randint(1, 8)))
                steps.append(rng.choice([("wind", a, b, rng.randint(1, 10 ** rng.randint(0, 18))), ("turn", a), ("swap", a, b), ("do", word, rng.randint(-9, 9))]))
            text = show_round(tuple(steps))
            self.assertTrue(same(read_round(text), tuple(steps)))
            self.assertEqual(text, "; ".join(" ".join(map(str, step)) for step in steps) or "none")

    def test_no_text(self):
        for text in NO_TEXTS:
            error = refusal(read_round, text)
            self.assertIs(type(error), NoText, text)
            self.assertIsInstance(error, ValueError)
            self.assertTrue(same(error.asked, text))

    def test_texts_with_a_sign_otherwise(self):
        text = "wind 0 1 5; turn 2; swap 0 2; do over -2"
        for at in range(len(text) + 1):
            for sign in (" ", "0", "1", "-", "+", ";", "a", "~", "\n", ""):
                for other in (text[:at] + sign + text[at:], text[:at] + sign + text[at + 1:]):
                    error = refusal(read_round, other)
                    if error is None:
                        self.assertEqual(show_round(read_round(other)), other)
                        self.assertIs(is_round(read_round(other)), True)
                    else:
                        self.assertIs(type(error), NoText)
        self.assertIsNone(refusal(read_round, text))

    def test_of_anything(self):
        for thing in [*anything(), deep(20000), (("turn", 0),), b"none"]:
            error = refusal(read_round, thing)
            if isinstance(thing, str) and thing == "none":
                self.assertIsNone(error)
            else:
                self.assertIs(type(error), NoText)
        for thing in anything():
            if thing != "none":
                self.assertTrue(same(refusal(read_round, thing).asked, thing))
        asked = [[]]
        error = refusal(read_round, asked)
        asked[0].append(1)
        self.assertEqual(error.asked, [[]])


if __name__ == "__main__":
    unittest.main()
