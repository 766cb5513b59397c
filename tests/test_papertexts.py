import unittest

from spoolrounds.comings import comes_paper, table_paper
from spoolrounds.errors import NoText
from spoolrounds.far import after_paper
from spoolrounds.papers import shows
from spoolrounds.papertexts import read_paper, show_paper
from spoolrounds.rings import rings_paper
from things import GREAT, anything, deep, refusal, same
from walks import great_lays, small_lays, small_lot, some

ROWS = [
    ((0, 5, 7, 1, 1, 0), ("piece",)), ((1, 2, 8, 1, 1, 0), ("part", 0)), ((1, 2, 0, -1, 2, 1), ("then", 1, 0)), ((4, 1, 4, 1, 9, 0), ("again", 2, 9)),
    ((0, 6, 7, 1, 1, 0), ("beside", 0, 3)),
]
TEXT = "0 5 7 + 1 0 piece\n1 2 8 + 1 0 part 0\n1 2 0 - 2 1 then 1 0\n4 1 4 + 9 0 again 2 9\n0 6 7 + 1 0 beside 0 3"
LONGEST = 10 ** 100 - 1
ROW = "3 4 5 + 6 7 "


class Texts(unittest.TestCase):
    def check(self, rows, text):
        self.assertTrue(same(show_paper(rows), text))
        self.assertTrue(same(show_paper(tuple(rows)), text))
        self.assertTrue(same(read_paper(text), rows))

    def test_told_ones(self):
        self.check(ROWS, TEXT)
        self.check([], "none")
        for row, line in zip(ROWS, TEXT.split("\n")):
            self.check([row], line)
        self.assertEqual(show_paper(rows=ROWS), TEXT)
        self.assertEqual(read_paper(text=TEXT), ROWS)

    def test_bounds(self):
        for row, text in (
            (((0, 1, 0, 1, 1, 0), ("piece",)), "0 1 0 + 1 0 piece"), (((0, 1, 0, -1, 1, 5), ("part", 77)), "0 1 0 - 1 5 part 77"),
            (((0, 1, 0, 1, 1, 0), ("again", 0, 2)), "0 1 0 + 1 0 again 0 2"), (((0, 1, 0, 1, 1, 0), ("then", 0, 0)), "0 1 0 + 1 0 then 0 0"),
            (((LONGEST,) * 3 + (1,) + (LONGEST,) * 2, ("beside", LONGEST, LONGEST)), " ".join(["9" * 100] * 3 + ["+"] + ["9" * 100] * 2 + ["beside"] + ["9" * 100] * 2)),
            (((GREAT, 1, GREAT, 1, GREAT, GREAT), ("piece",)), f"{GREAT} 1 {GREAT} + {GREAT} {GREAT} piece"),
        ):
            self.check([row], text)
            self.check([row, row], text + "\n" + text)

    def test_papers(self):
        rng = some("paper texts")
        papers = []
        for lay in small_lays("paper texts", 60):
            lot = small_lot(rng, lay)
            papers += [table_paper(lay, lot), comes_paper(lay, lot, 0), after_paper(lay, lot, lay.spots() - 1, rng.randint(1, 50)), rings_paper(lay)[1]]
        for _, lay in great_lays():
            rows = after_paper(lay, [(0, 5)], 3, GREAT)
            papers.append(rows)
            self.assertIs(shows(lay, [(0, 5)], read_paper(show_paper(rows))), True)
        for rows in papers:
            text = show_paper(rows)
            self.assertTrue(same(read_paper(text), rows))
            self.assertEqual(show_paper(read_paper(text)), text)

    def test_whether_they_are_led_so_is_not_asked(self):
        for text in ("0 1 5 + 1 9 piece", "7 7 7 - 7 7 part 99", "0 1 0 + 1 0 then 5 5\n0 1 0 + 1 0 again 1 2", "0 1 0 - 1 0 again 0 2"):
            self.assertEqual(show_paper(read_paper(text)), text)

    def test_no_text(self):
        bad = [
            "", " ", "\n", "None", "none\n", "\nnone", " none", "none ", TEXT + "\n", "\n" + TEXT, TEXT + " ", " " + TEXT, TEXT.replace("\n", "\n\n", 1),
            TEXT.replace("\n", " "), TEXT.replace("\n", ", "), TEXT.replace("\n", "; "), TEXT + "\nnone", "none\n" + TEXT,
        ]
        bad += [ROW + rule for rule in (
            "", "piece ", " piece", "piece 0", "Piece", "part", "part ", "part 0 0", "part -1", "part -0", "part 00", "part +1", "part a", "then", "then 0", "then 0 ",
            "then 0 0 0", "then 0 -1", "then -1 0", "then 00 1", "again", "again 0", "again 0 1", "again 0 0", "again 0 -2", "again -1 2", "again 0 02", "again 0 2 2",
            "beside 0", "beside 0 -1", "beside 0 1 2", "beside 0  1", "piece\n", "(piece)", "0", "parts 0", "part 0.", "part x0", "part " + "1" * 101, "then 0 " + "1" * 101,
            "again 0 " + "1" * 101, "none",
        )]
        good = ["3", "4", "5", "+", "6", "7", "piece"]
        for place in (0, 1, 2, 4, 5):
            for word in ("", "-1", "-0", "00", "03", "+3", "a", "3.", "1" * 101, "0" * 100, "3 3", "-", "+", "9" * 900, "1_0", "0x1"):
                bad.append(" ".join([*good[:place], word, *good[place + 1:]]))
            bad.append(" ".join(good[:place] + good[place + 1:]))
        bad += [" ".join([*good[:place], "0", *good[place + 1:]]) for place in (1, 4)]
        bad += [" ".join([*good[:3], word, *good[4:]]) for word in ("", "1", "-1", "+1", "++", "+-", "--", "0", " ", "plus")]
        for text in bad:
            for whole in (text, TEXT + "\n" + text) if text and text != "none" else (text,):
                error = refusal(read_paper, whole)
                self.assertIs(type(error), NoText, whole)
                self.assertIsInstance(error, ValueError)
                self.assertTrue(same(error.asked, whole))

    def test_texts_with_a_sign_otherwise(self):
        for at in range(len(TEXT) + 1):
            for sign in (" ", "0", "1", "-", "+", "a", "\n", ""):
                for other in (TEXT[:at] + sign + TEXT[at:], TEXT[:at] + sign + TEXT[at + 1:]):
                    error = refusal(read_paper, other)
                    if error is None:
                        self.assertEqual(show_paper(read_paper(other)), other)
                    else:
                        self.assertIs(type(error), NoText)

    def test_of_anything(self):
        for thing in [*anything(), deep(20000), ROWS]:
            if isinstance(thing, str) and thing == "none":
                self.assertEqual(read_paper(thing), [])
                continue
            error = refusal(read_paper, thing)
            self.assertIs(type(error), NoText)
            if not isinstance(thing, list):
                self.assertTrue(same(error.asked, thing))
        asked = [[]]
        error = refusal(read_paper, asked)
        asked[0].append(1)
        self.assertEqual(error.asked, [[]])

    def test_what_is_told_is_new(self):
        for text in (TEXT, "none"):
            read_paper(text).append(None)
            self.assertNotIn(None, read_paper(text))


if __name__ == "__main__":
    unittest.main()
