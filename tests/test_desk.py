import unittest

from spoolrounds.comings import comes
from spoolrounds.desk import Desk
from spoolrounds.errors import Known, NoDeed, NoName, NoRow, NoSpool, NoSpot, NoYard, TooFew, TooMany, Uneven
from spoolrounds.gauges import behind, place, spot
from spoolrounds.lays import lay_of
from spoolrounds.rings import ring, rings
from spoolrounds.rounds import Rounds
from spoolrounds.roundtexts import show_round
from spoolrounds.threads import joined
from spoolrounds.threadtexts import show_row
from spoolrounds.works import Works
from things import GREAT, anything, deep, refusal, same
from walks import some

SIGNS = {1: "+", -1: "-"}
TALK = (
    ("gauge", "0 0 0"), ("top 0 60", "none"), ("rings none", "none"), ("rings turn 0", "none"), ("put 0 red 0..9, blue 3-", "ok"), ("put 1 none", "ok"),
    ("gauge", "11 0 0"), ("tell over wind 0 1 5; turn 2", "ok"), ("go 1 do over 1", "ok"), ("gauge", "6 5 0"), ("top 0 60", "red 5..9, blue 3-"),
    ("top 1 3", "red 4..2"), ("top 1 0", "none"), ("top 1 1", "red 4-"), ("top 0 1000000000000000000", "red 5..9, blue 3-"), ("yard 1 0", "red 4 -"), ("yard 0 5", "blue 3 -"),
    ("where red 4", "1 0 -"), ("where blue 3", "0 5 -"), ("go -1 do over 1", "ok"), ("top 0 60", "red 0..9, blue 3-"), ("go 0 wind 2 0 7", "ok"),
    ("take 0 2", "ok"), ("where red 1", "nowhere"), ("where red 2", "0 0 +"), ("gauge", "9 0 0"), ("undo", "ok"), ("where red 1", "0 1 +"), ("undo", "ok"), ("undo", "ok"),
    ("gauge", "6 5 0"), ("ring 0 0 turn 0", "2 +"), ("ring 1 2 turn 1", "1 -"), ("ring 1 2 none", "1 +"), ("ring 1 2 swap 0 2; swap 0 2", "1 +"),
    ("rings turn 1", "1 - 1, 1 + 6, 2 + 2"), ("rings none", "1 + 11"), ("comes 0 0 0 1 turn 0", "2 0 0 +"), ("comes 0 1 0 1 turn 0", "never"),
    ("comes 0 5 0 2 turn 0", "1 0 0 -"), ("comes 0 1 1 5 turn 0", "never"), ("comes 0 0 1 5 wind 0 2 1; wind 1 0 1; wind 2 1 1", "1 1 0 +"),
    ("go 1000000000000000000 turn 1", "ok"), ("top 1 60", "red 4..0"), ("go -1000000000000000000 turn 1", "ok"), ("go -3 turn 1", "ok"), ("top 1 60", "red 0..4"),
    ("put 2 a 1000000000000000000+", "ok"), ("where a 1000000000000000000", "2 0 +"), ("yard 2 0", "a 1000000000000000000 +"), ("undo", "ok"), ("put 2 a 5..3, b 7-", "ok"),
    ("top 2 60", "a 5..3, b 7-"), ("tell none none", "ok"), ("go 1 none", "ok"), ("go 5 do none 9", "ok"), ("tell turn turn 2", "ok"), ("go 1 do turn 1", "ok"), ("top 2 2", "b 7+, a 3+"),
    ("where b 7", "2 0 +"),
)


def said(desk, *rows):
    return [desk.say(row) for row in rows]


class Says(unittest.TestCase):
    def test_a_talk(self):
        desk = Desk()
        for row, answer in TALK:
            with self.subTest(row):
                self.assertTrue(same(desk.say(row), answer))
        self.assertEqual(desk.say(row="gauge"), desk.say("gauge"))

    def test_desks_are_apart(self):
        one, other = Desk(), Desk()
        one.say("put 0 a 0..5")
        one.say("tell over turn 0")
        self.assertEqual(other.say("gauge"), "0 0 0")
        self.assertEqual(other.say("tell over turn 1"), "ok")

    def test_against_the_calls(self):
        rng = some("desk")
        for great in (False, True):
            desk, works, book = Desk(), Works(3), Rounds()
            each = GREAT // 4 if great else 9
            for spool, word in enumerate("abc"):
                row = [(word, 0, each // 2, 1), (word, each, each // 2, -1)]
                desk.say(f"put {spool} {show_row(row)}")
                works.put(spool, row)
            for k in range(40):
                a, b = rng.sample(range(3), 2)
                many = rng.randint(1, each // 3)
                steps = rng.choice([
                    (("wind", a, b, many), ("turn", b), ("wind", b, a, many), ("turn", a)), (("turn", a), ("wind", a, b, 1), ("swap", a, b), ("wind", b, a, 1), ("swap", a, b)),
                    (("wind", a, b, many),), (("swap", a, b), ("turn", a)),
                ])
                text = show_round(steps)
                self.check(desk, works, book, steps, text, rng)
                times = rng.choice((1, 1, 2, -1, 7, GREAT, -GREAT))
                error = refusal(works.do, steps, times)
                if error is None:
                    self.assertEqual(desk.say(f"go {times} {text}"), "ok")
                else:
                    self.assertIs(type(refusal(desk.say, f"go {times} {text}")), type(error))

    def check(self, desk, works, book, steps, text, rng):
        gauge = works.gauge()
        self.assertEqual(desk.say("gauge"), " ".join(map(str, gauge)))
        spool = rng.choice([spool for spool in range(3) if gauge[spool]])
        depth = rng.randrange(gauge[spool])
        word, number, way = works.yard(spool, depth)
        self.assertEqual(desk.say(f"yard {spool} {depth}"), f"{word} {number} {SIGNS[way]}")
        self.assertEqual(desk.say(f"where {word} {number}"), f"{spool} {depth} {SIGNS[way]}")
        self.assertEqual(desk.say(f"top {spool} 12"), show_row(works.top(spool, 12)))
        other = rng.choice([spool for spool in range(3) if gauge[spool]])
        many = rng.randint(1, gauge[other])
        rows = (f"ring {spool} {depth} {text}", f"rings {text}", f"comes {spool} {depth} {other} {many} {text}")
        error = refusal(behind, book, steps, gauge)
        if error is not None or behind(book, steps, gauge) != gauge:
            kind, name, value = (TooFew, "at", error.at) if error is not None else (Uneven, "times", 2)
            for row in rows:
                self.assertIs(type(refusal(desk.say, row)), kind)
                self.assertEqual(getattr(refusal(desk.say, row), name), value)
            return
        lay = lay_of(book, steps, gauge)
        start = spot(gauge, spool, depth)
        length, turned = ring(lay, start)
        self.assertEqual(desk.say(rows[0]), f"{length} {SIGNS[turned]}")
        self.assertEqual(desk.say(rows[1]), ", ".join(f"{length} {SIGNS[turned]} {often}" for length, turned, often in rings(lay)))
        found = comes(lay, [(sum(gauge[:other]), many)], start)
        if found is None:
            told = "never"
        else:
            there, depth = place(gauge, found[1])
            told = f"{found[0]} {there} {depth} {SIGNS[found[2]]}"
        self.assertEqual(desk.say(rows[2]), told)


class NoRows(unittest.TestCase):
    def setUp(self):
        self.desk = Desk()
        said(self.desk, "put 0 a 0..9", "put 1 b 0..4", "put 2 c 3+", "tell over turn 0")

    def refused(self, row):
        error = refusal(self.desk.say, row)
        self.assertIs(type(error), NoRow, row)
        self.assertIsInstance(error, ValueError)
        return error.asked

    def test_each_word_otherwise(self):
        good = (
            "tell x turn 0", "put 0 x 1+", "take 0 1", "go 1 turn 0", "undo", "gauge", "yard 0 1", "where a 1", "top 0 1", "ring 0 1 turn 0", "rings turn 0", "comes 0 1 1 2 turn 0",
        )
        for row in good:
            desk = Desk()
            said(desk, "put 0 a 0..9", "put 1 b 0..4")
            self.assertIsNone(refusal(desk.say, row))
            words = row.split(" ")
            others = [row + " ", " " + row, row + "\n", row.upper(), row + " 1", row + "x"]
            others += [" ".join([words[0] + "s", *words[1:]]), " ".join([words[0].capitalize(), *words[1:]])]
            others += [" ".join(words[:at] + words[at + 1:]) for at in range(len(words))]
            others += [sign.join([words[0], " ".join(words[1:])]) for sign in ("  ", "\n", "", ",")]
            for other in others:
                if other != row:
                    self.assertEqual(self.refused(other), other)

    def test_numbers(self):
        rows = {
            "put {} none": (0, 2), "take {} 1": (0, 2), "take 0 {}": (1, 5), "yard {} 0": (0, 2), "yard 0 {}": (0, 2), "where a {}": (0, 9), "top {} 5": (0, 2), "top 0 {}": (0, GREAT),
            "ring {} 0 none": (0, 2), "ring 0 {} none": (0, 2), "comes {} 0 0 1 none": (0, 2), "comes 0 {} 0 1 none": (0, 2), "comes 0 0 {} 1 none": (0, 2), "comes 0 0 0 {} none": (1, 3),
            "go {} turn 0": (-GREAT, GREAT),
        }
        for form, (low, high) in rows.items():
            for number in ("", "+1", "01", "00", "-0", "x", "1.", "1 1", " 1", "1 ", "--1", "-", str(GREAT + 1), "9" * 19, "1" * 20, "9" * 900, "0x1", "1_0", "one", "-" + str(GREAT + 1)):
                row = form.replace("{}", number)
                self.assertEqual(self.refused(row), row)
            if low >= 0:
                self.refused(form.replace("{}", "-1"))
            if low == 1:
                self.refused(form.replace("{}", "0"))
            for number in (low, high):
                desk = Desk()
                said(desk, "put 0 a 0..9", "put 1 b 0..4", "put 2 c 3..5")
                self.assertIsNone(refusal(desk.say, form.replace("{}", str(number))), (form, number))

    def test_numbers_at_their_bounds(self):
        for row, kind in (
            ("put 1000000000000000000 none", NoSpool), ("take 1000000000000000000 1", NoSpool), ("take 0 1000000000000000000", TooFew), ("yard 0 1000000000000000000", NoSpot),
            ("yard 1000000000000000000 0", NoSpot), ("where a 1000000000000000000", NoYard), ("top 1000000000000000000 1", NoSpool), ("ring 0 1000000000000000000 none", NoSpot),
            ("ring 1000000000000000000 0 none", NoSpot), ("comes 0 0 1000000000000000000 1 none", NoSpool), ("comes 0 0 0 1000000000000000000 none", TooFew),
            ("comes 0 1000000000000000000 0 1 none", NoSpot), ("comes 1000000000000000000 0 0 1 none", NoSpot), ("go 1000000000000000000 wind 0 1 1", Uneven),
            ("go -1000000000000000000 wind 0 1 1", Uneven),
        ):
            self.assertIs(type(refusal(self.desk.say, row)), kind, row)

    def test_words_and_texts(self):
        for row in (
            "tell", "tell x", "tell  none", "tell X none", "tell x1 none", "tell abcdefghi none", "tell 1 none", "tell x turn", "tell x turn 6", "tell x None", "tell x turn 0;",
            "tell none", "tell over over", "put 0", "put 0 ", "put 0 a", "put 0 a 5", "put 0 a 0..0", "put 0 a 0+,", "put 0 a 0+, a 1+", "put 0 []", "put 0 none none", "put none 0",
            "go turn 0", "go 1", "go 1 over", "go 1 turn", "go 1 do over", "go 1 do over 10", "where A 1", "where a1 1", "where abcdefghi 1", "where  1", "where 1 a", "rings", "rings over",
            "rings do over", "ring 0 0", "ring 0 turn 0", "ring 0 0 0 turn 0", "comes 0 0 0 none", "comes 0 0 0 1", "comes 0 0 0 1 0 none", "undo 1", "undo none", "undo undo", "gauge 0", "gauge none",
            "", " ", "none", "ok", "do over 1", "turn 0", "wind 0 1 1", "len", "deeds", "say gauge", "gauge\ngauge", "yard", "yard 0", "yard 0 0 0", "top", "top 0", "top 0 0 0", "take", "take 0",
            "go " + "; ".join(["turn 0"] * 25), "tell x " + "; ".join(["turn 0"] * 25),
        ):
            self.assertEqual(self.refused(row), row)
        self.assertEqual(self.desk.say("gauge"), "10 5 1")

    def test_of_anything(self):
        for thing in [*anything(), deep(20000), b"gauge", ["gauge"], ("gauge",)]:
            asked = self.refused(thing)
            if not isinstance(thing, list):
                self.assertTrue(same(asked, thing))
        asked = [["gauge"]]
        error = refusal(self.desk.say, asked)
        asked[0].append(1)
        self.assertEqual(error.asked, [["gauge"]])
        self.assertEqual(self.desk.say("gauge"), "10 5 1")


class Refusals(unittest.TestCase):
    def setUp(self):
        self.desk = Desk()
        said(self.desk, "put 0 a 0..9", "put 1 b 0..4", "put 2 c 3+", "tell over turn 0", "tell long " + "; ".join(["turn 0"] * 24))

    def check(self, row, kind, **told):
        before = said(self.desk, "gauge", "top 0 60", "top 1 60", "top 2 60")
        error = refusal(self.desk.say, row)
        self.assertIs(type(error), kind, row)
        for name, value in told.items():
            self.assertTrue(same(getattr(error, name), value), (row, getattr(error, name)))
        self.assertEqual(said(self.desk, "gauge", "top 0 60", "top 1 60", "top 2 60"), before)

    def test_as_the_works_refuses(self):
        self.check("tell over none", Known, name="over")
        self.check("tell new do other 0", NoName, name="other")
        self.check("tell new do long 2", TooMany, many=48)
        self.check("put 3 a 0+", NoSpool, asked=3)
        self.check("put 0 x 1+, a 20..5", Known, name=("a", 9))
        self.check("put 0 x 1+, y 0+, x 3..0", Known, name=("x", 1))
        self.check("put 0 x 1..1000000000000000000", TooMany, many=GREAT + 16)
        self.check("take 5 1", NoSpool, asked=5)
        self.check("take 1 6", TooFew, at=5)
        self.check("go 5 do other 0", NoName, name="other")
        self.check("go 0 do long 2", TooMany, many=48)
        self.check("go 2 turn 0; wind 2 0 2", TooFew, at=1)
        self.check("go -1 wind 0 1 6", TooFew, at=0)
        self.check("go 2 wind 0 1 1", Uneven, times=2)
        self.check("go -7 wind 0 1 1", Uneven, times=-7)
        self.check("yard 0 10", NoSpot, asked=(0, 10))
        self.check("yard 3 0", NoSpot, asked=(3, 0))
        self.check("where a 10", NoYard, asked=("a", 10))
        self.check("where none 0", NoYard, asked=("none", 0))
        self.check("top 3 1", NoSpool, asked=3)
        for _ in range(3):
            self.desk.say("undo")
        self.check("undo", NoDeed)

    def test_rounds_asked_of(self):
        for row in ("ring 3 0 {}", "rings {}", "comes 3 0 3 99 {}"):
            for text, kind, told in (
                ("do other 0", NoName, {"name": "other"}), ("wind 0 1 99; do other 1", NoName, {"name": "other"}), ("do long 2", TooMany, {"many": 48}),
                ("turn 0; wind 2 0 2", TooFew, {"at": 1}), ("turn 3", TooFew, {"at": 0}), ("wind 0 1 1", Uneven, {"times": 2}), ("swap 0 1", Uneven, {"times": 2}),
            ):
                self.check(row.replace("{}", text), kind, **told)
        self.check("ring 3 0 turn 0", NoSpot, asked=(3, 0))
        self.check("ring 2 1 turn 0", NoSpot, asked=(2, 1))
        self.check("comes 3 0 3 99 turn 0", NoSpot, asked=(3, 0))
        self.check("comes 0 10 3 99 turn 0", NoSpot, asked=(0, 10))
        self.check("comes 0 9 3 99 turn 0", NoSpool, asked=3)
        self.check("comes 0 9 2 99 turn 0", TooFew, at=1)
        self.check("comes 0 9 1 6 turn 0", TooFew, at=5)
        self.assertEqual(self.desk.say("comes 0 9 1 5 turn 0"), "never")

    def test_of_bare_spools(self):
        self.desk = Desk()
        self.check("ring 0 0 none", NoSpot, asked=(0, 0))
        self.check("comes 0 0 0 1 none", NoSpot, asked=(0, 0))
        self.check("take 0 1", TooFew, at=0)
        self.check("undo", NoDeed)
        self.assertEqual(said(self.desk, "rings none", "rings swap 0 1", "go 5 swap 0 1", "put 0 a 0+"), ["none", "none", "ok", "ok"])
        self.check("comes 0 0 1 1 none", TooFew, at=0)
        self.assertEqual(said(self.desk, "comes 0 0 0 1 none", "ring 0 0 turn 0", "rings turn 0"), ["1 0 0 +", "1 -", "1 - 1"])


if __name__ == "__main__":
    unittest.main()
