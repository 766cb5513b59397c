import unittest

from spoolrounds.errors import BadName, Known, NoDeed, NoName, NoRound, NoSpool, NoSpot, NoStretch, NoYard, TooFew, TooMany, Uneven
from spoolrounds.far import after
from spoolrounds.lays import lay_of
from spoolrounds.gauges import place, spot
from spoolrounds.rounds import Rounds
from spoolrounds.threads import joined, yards
from spoolrounds.works import Works
from things import GREAT, HUGE, anything, deep, refusal, same
from walks import some
from yards import singly, stepped, told_of

TURN = (("turn", 0),)
OVER = (("wind", 0, 1, 2),)


def undone(steps):
    return [("wind", step[2], step[1], step[3]) if step[0] == "wind" else step for step in reversed(steps)]


class Model:
    """A works whose yards are moved one by one; it keeps all that lay behind each deed."""

    def __init__(self, spools):
        self.behind = [[[] for _ in range(spools)]]
        self.deeds = []
        self.rounds = {}

    def written(self, steps):
        out = []
        for step in steps:
            if step[0] == "do":
                part = self.written(self.rounds[step[1]])
                out += (part if step[2] >= 0 else undone(part)) * abs(step[2])
            else:
                out.append(step)
        return out

    def put(self, spool, row):
        there = [list(rest) for rest in self.behind[-1]]
        there[spool] = singly(row) + there[spool]
        self.add(("put", spool, tuple(joined(row))), there)

    def take(self, spool, many):
        there = [list(rest) for rest in self.behind[-1]]
        del there[spool][:many]
        self.add(("take", spool, many), there)

    def do(self, steps, times):
        """None where it is done, else how it is refused."""
        there = self.behind[-1]
        written = self.written(steps)
        if len(written) > 40:
            return TooMany
        for done in range(abs(times)):
            made = stepped(there, written if times > 0 else undone(written))
            if isinstance(made, int):
                return TooFew
            if done == 0 and abs(times) > 1 and [len(row) for row in made] != [len(row) for row in there]:
                return Uneven
            there = made
        self.add(("do", steps, times), there)
        return None

    def add(self, deed, there):
        self.deeds.append(deed)
        self.behind.append(there)

    def undo(self):
        self.deeds.pop()
        self.behind.pop()

    def known(self):
        """All yards of rows that were put."""
        return [yard[:2] for deed in self.deeds if deed[0] == "put" for yard in singly(deed[2])]


def any_round(rng, spools, names=()):
    steps = []
    for _ in range(rng.randint(0, 4)):
        a, b = rng.sample(range(spools), 2)
        steps.append(rng.choice([("wind", a, b, rng.randint(1, 3)), ("turn", a), ("swap", a, b)]))
    if names and rng.random() < 0.4:
        steps.append(("do", rng.choice(names), rng.randint(-2, 2)))
    if rng.random() < 0.6:
        # Back to the same gauge, but not to the same yards: something is turned on the way.
        steps += [("turn", rng.randrange(spools)), *undone([step for step in steps if step[0] != "do"])]
    return tuple(steps)


class AgainstYards(unittest.TestCase):
    def check(self, works, model, upto=None):
        at = len(model.deeds) if upto is None else upto
        there = model.behind[at]
        asked = {} if upto is None else {"upto": upto}
        self.assertTrue(same(works.gauge(**asked), tuple(len(row) for row in there)))
        for spool, row in enumerate(there):
            for depth, yard in enumerate(row):
                self.assertTrue(same(works.yard(spool, depth, **asked), yard))
                self.assertTrue(same(works.where(yard[0], yard[1], **asked), (spool, depth, yard[2])))
            for many in (0, 1, 3, len(row), len(row) + 2, 60, 100):
                self.assertTrue(same(works.top(spool, many, **asked), told_of(row[:min(many, 60)])))
            self.assertIs(type(refusal(works.yard, spool, len(row), **asked)), NoSpot)
        lying = {yard[:2] for row in there for yard in row}
        put = [yard[:2] for deed in model.deeds[:at] if deed[0] == "put" for yard in singly(deed[2])]
        for name in put:
            if name not in lying:
                self.assertIsNone(works.where(*name, **asked))
        for deed in model.deeds[at:]:
            for yard in singly(deed[2]) if deed[0] == "put" else []:
                self.assertEqual(refusal(works.where, *yard[:2], **asked).asked, yard[:2])

    def whole(self, works, model):
        self.assertTrue(same(works.deeds(), model.deeds))
        self.assertTrue(same(len(works), len(model.deeds)))
        self.check(works, model)
        for upto in range(len(model.deeds) + 1):
            self.check(works, model, upto)

    def deed(self, rng, works, model, spools, counts):
        kind = rng.choice(("put", "put", "take", "do", "do", "do", "do", "undo"))
        spool = rng.randrange(spools)
        if kind == "put":
            known = set(model.known())
            free = [(word, number) for word in ("a", "b", "c") for number in range(30) if (word, number) not in known]
            row = [(*name, 1, rng.choice((1, -1))) for name in sorted(rng.sample(free, rng.randint(0, 5)))]
            works.put(spool, row)
            model.put(spool, row)
        elif kind == "take":
            many = rng.randint(1, 3)
            lying = len(model.behind[-1][spool])
            if many > lying:
                self.assertEqual(refusal(works.take, spool, many).at, lying)
            else:
                works.take(spool, many)
                model.take(spool, many)
        elif kind == "do":
            steps = any_round(rng, spools, sorted(model.rounds))
            times = rng.choice((-9, -2, -1, 0, 1, 1, 2, 3, 11))
            error = refusal(works.do, steps, times)
            self.assertIs(None if error is None else type(error), model.do(steps, times))
            kind = (kind, None if error is None else type(error))
        elif len(model.deeds) > 3:
            works.undo()
            model.undo()
        counts[kind] = counts.get(kind, 0) + 1

    def test_any_deeds(self):
        counts = {}
        for seed in range(60):
            rng = some(f"works {seed}")
            spools = rng.randint(2, 6)
            works, model = Works(spools), Model(spools)
            for name in ("a", "over", "do"):
                steps = any_round(rng, spools, sorted(model.rounds))
                works.tell(name, steps)
                model.rounds[name] = steps
            for _ in range(25):
                self.deed(rng, works, model, spools, counts)
            self.whole(works, model)
        self.assertGreater(min(counts.get(kind, 0) for kind in (("do", None), ("do", TooFew), ("do", Uneven), "put", "take", "undo")), 20)

    def test_bare(self):
        for spools in range(2, 7):
            works = Works(spools)
            self.whole(works, Model(spools))
            self.assertEqual(works.gauge(), (0,) * spools)
            self.assertEqual((works.deeds(), len(works), works.top(0, 60)), ([], 0, []))
        self.assertEqual(Works(spools=2).gauge(), (0, 0))

    def test_rows_of_none(self):
        works, model = Works(2), Model(2)
        for row in ([], (), [("a", 0, 2, 1)], []):
            works.put(1, row)
            model.put(1, row)
        works.do((), 5)
        model.do((), 5)
        self.whole(works, model)
        self.assertEqual(works.deeds()[:2], [("put", 1, ()), ("put", 1, ())])

    def test_rounds_done_no_times_once_and_backwards(self):
        works, model = Works(3), Model(3)
        works.put(0, [("a", 0, 6, 1)])
        model.put(0, [("a", 0, 6, 1)])
        # Uneven, and backwards not to be done here, but no times it may be.
        for steps, times in (
            (OVER, 0), ((("wind", 2, 0, 1),), 0), ((("wind", 0, 5, 9),), 0), (OVER, 1), (OVER, -1), (OVER, 1), ((("wind", 0, 2, 2), ("swap", 0, 1)), 1),
            ((("wind", 0, 2, 2), ("swap", 0, 1)), -1), (TURN, -3), ((("wind", 1, 0, 1), ("turn", 0), ("wind", 0, 1, 1)), 4),
            ((("wind", 1, 0, 1), ("turn", 0), ("wind", 0, 1, 1)), -7), ((), 3),
        ):
            works.do(steps, times)
            self.assertIsNone(model.do(steps, times))
            self.whole(works, model)
        works.do(TURN)
        model.do(TURN, 1)
        self.whole(works, model)

    def test_names_stand_behind_deeds_taken_back(self):
        works, model = Works(2), Model(2)
        works.put(0, [("a", 0, 3, 1)])
        works.tell("turned", TURN)
        works.undo()
        self.assertEqual((len(works), works.gauge()), (0, (0, 0)))
        works.put(0, [("a", 0, 3, 1)])
        model.put(0, [("a", 0, 3, 1)])
        works.do((("do", "turned", 1), ("do", "turned", -1), ("do", "turned", 3)))
        model.do(TURN, 1)
        model.deeds[-1] = ("do", (("do", "turned", 1), ("do", "turned", -1), ("do", "turned", 3)), 1)
        self.whole(works, model)
        self.assertEqual(refusal(works.tell, "turned", ()).name, "turned")

    def test_what_is_told_as_of_elder_deeds_stays(self):
        works, model = Works(2), Model(2)
        for make in (works, model):
            make.put(0, [("a", 0, 5, 1)])
            make.do((("turn", 0), ("wind", 0, 1, 3), ("swap", 0, 1)), 1)
            make.put(0, [("b", 0, 1, 1), ("b", 1, 1, -1)])
        self.check(works, model, 1)
        self.check(works, model, 2)
        for make in (works, model):
            make.undo()
            make.take(1, 2)
            make.do((("wind", 0, 1, 1), ("turn", 1), ("wind", 1, 0, 1)), 5)
            make.put(1, [("b", 1, 2, 1)])
        self.whole(works, model)


def many_rows(rng, word, stretches, many):
    """A row of so many stretches of so many yards together, each yard once."""
    marks = [0, *sorted(rng.sample(range(1, many), stretches - 1)), many]
    parts = [(word, a, b - a, 1) if rng.random() < 0.5 else (word, b - 1, b - a, -1) for a, b in zip(marks, marks[1:])]
    rng.shuffle(parts)
    return joined(parts)


class Great(unittest.TestCase):
    def test_rounds_done_many_times(self):
        rng = some("great works")
        works = Works(4)
        book = Rounds()
        for k, word in enumerate(("a", "b", "c", "d")):
            works.put(k, many_rows(rng, word, 70, GREAT // 4))
        many = GREAT // 4
        steps = (
            ("wind", 0, 1, many // 3), ("turn", 2), ("wind", 2, 0, many // 3), ("wind", 1, 2, many // 3), ("wind", 3, 1, 12345), ("swap", 0, 2),
            ("wind", 1, 3, 12345), ("swap", 2, 0),
        )
        for teller in (works, book):
            teller.tell("r", steps)
            # Names that rest on names.
            for name, elder in zip(("ra", "rb", "rc", "rd", "re", "rf"), ("r", "ra", "rb", "rc", "rd", "re")):
                teller.tell(name, (("do", elder, 1), ("turn", 3)))
        deep_round = (("do", "rf", 1), ("turn", 1))
        lay = lay_of(book, deep_round, works.gauge())
        gauge = works.gauge()
        places = ((0, 0), (1, many // 2), (2, many - 1), (3, 77))
        before = [works.yard(*there) for there in places]
        works.do(deep_round, GREAT)
        for (spool, depth), (word, number, way) in zip(places, before):
            to, turned = after(lay, spot(gauge, spool, depth), GREAT)
            self.assertEqual(works.where(word, number), (*place(gauge, to), way * turned))
            self.assertEqual(works.yard(*place(gauge, to)), (word, number, way * turned))
            self.assertEqual(works.where(word, number, upto=4), (spool, depth, way))
        works.do(deep_round, -GREAT + 1)
        works.do(deep_round, -1)
        self.assertEqual([works.yard(*there) for there in places], before)
        self.assertEqual(works.top(2, 60), works.top(2, 60, upto=4))
        self.assertEqual(yards(works.top(2, 60)), 60)

    def test_names_many_deep(self):
        works = Works(2)
        works.put(0, [("a", 0, 9, 1)])
        works.tell("x", (("wind", 0, 1, 2), ("turn", 0), ("wind", 1, 0, 2)))
        elder = "x"
        for k in range(3000):
            name = "".join("abcdefghij"[int(figure)] for figure in str(k))
            works.tell(name, (("do", elder, 1 if k % 2 else -1),))
            elder = name
        works.do((("do", elder, 1),), GREAT)
        works.do((("do", elder, -1),), GREAT)
        self.assertEqual(works.top(0, 60), [("a", 0, 9, 1)])
        works.do((("do", elder, 1),))
        self.assertNotEqual(works.top(0, 60), [("a", 0, 9, 1)])
        works.do((("do", "x", 1 if (3000 // 2) % 2 else -1),))
        self.assertEqual(works.top(0, 60), [("a", 0, 9, 1)])

    def test_thirty_deeds(self):
        rng = some("thirty deeds")
        works = Works(6)
        for spool, word in enumerate("abcdef"):
            works.put(spool, many_rows(rng, word, 70, GREAT // 7))
        kept = []
        for k in range(30):
            steps = []
            for _ in range(6):
                a, b = rng.sample(range(6), 2)
                many = rng.randint(1, works.gauge()[a] // 50 + 1) if rng.random() < 0.7 else works.gauge()[a] // 3 + 1
                steps += [("wind", a, b, many), ("turn", b), ("wind", b, a, many), ("turn", a)]
            works.do(tuple(steps[:23]) + (("turn", 5),), rng.randint(-GREAT, GREAT))
            if k % 5 == 0:
                works.take(k % 6, 1 + k)
                works.put((k + 1) % 6, [("g", 1000 * k, 99, 1)])
            kept.append((len(works), works.top(3, 5), works.gauge()))
        for k in range(10):
            works.undo()
        works.do(TURN, GREAT - 1)
        for upto, row, gauge in kept:
            if upto < len(works):
                self.assertEqual(works.top(3, 5, upto=upto), row)
                self.assertEqual(works.gauge(upto=upto), gauge)
        for spool in range(6):
            for depth in (0, 1, works.gauge()[spool] // 2, works.gauge()[spool] - 1):
                word, number, way = works.yard(spool, depth)
                self.assertEqual(works.where(word, number), (spool, depth, way))
        self.assertEqual(yards(works.top(0, 60)), 60)

    def test_as_many_yards_as_may_be(self):
        works = Works(3)
        works.put(2, [("a", 1, GREAT, 1)])
        for spool in range(3):
            error = refusal(works.put, spool, [("b", 0, 1, 1)])
            self.assertIs(type(error), TooMany)
            self.assertIsInstance(error, RuntimeError)
            self.assertTrue(same(error.many, GREAT + 1))
        self.assertEqual(refusal(works.put, 0, [("b", 1, GREAT, 1), ("c", 0, 5, 1)]).many, 2 * GREAT + 5)
        works.put(0, [])
        works.take(2, 1)
        works.put(0, [("b", 0, 1, 1)])
        self.assertEqual(works.gauge(), (1, 0, GREAT - 1))
        works.do((("wind", 2, 1, GREAT - 1), ("turn", 1), ("wind", 1, 2, GREAT - 1)), GREAT - 1)
        self.assertEqual(works.yard(2, 0), ("a", GREAT, -1))
        works.do((("wind", 2, 0, GREAT - 1),))
        works.take(0, GREAT)
        self.assertEqual(works.gauge(), (0, 0, 0))
        self.assertIsNone(works.where("a", 5))
        self.assertEqual(works.where("a", 5, upto=1), (2, 4, 1))


class Refusals(unittest.TestCase):
    def setUp(self):
        self.works = Works(3)
        self.works.tell("over", OVER)
        self.works.put(0, [("a", 0, 6, 1), ("b", 9, 3, -1)])
        self.works.put(1, [("c", 0, 2, 1)])
        self.works.do((("turn", 0), ("wind", 0, 2, 4)))
        self.works.take(2, 1)
        self.before = self.told()

    def told(self):
        works = self.works
        return (works.deeds(), len(works), works.gauge(), [works.top(spool, 60) for spool in range(3)], [works.gauge(upto=upto) for upto in range(5)])

    def refused(self, error, kind, above, **told):
        self.assertIs(type(error), kind)
        self.assertIsInstance(error, above)
        for name, value in told.items():
            self.assertTrue(same(getattr(error, name), value), (getattr(error, name), value))
        self.assertEqual(self.told(), self.before)

    def test_rows_that_are_none(self):
        for thing in [*anything(), deep(20000), "a 0+", None]:
            if isinstance(thing, (list, tuple)):
                continue
            self.refused(refusal(self.works.put, 0, thing), NoStretch, ValueError, at=None)
            self.refused(refusal(self.works.put, 9, thing), NoStretch, ValueError, at=None)
        good = ("x", 0, 2, 1)
        for thing in [*anything(), deep(20000), list(good), ("x", 5, 1), (*good, 1), ("x", 0, 0, 1), ("x", 0, 2, 2), ("x", 0, 2, -1), ("x", GREAT, 2, 1)]:
            if thing == ("a", 0, 1, 1) and isinstance(thing, tuple):
                continue
            for at in range(3):
                row = [good, ("y", 0, 1, 1), ("z", 0, 1, 1)][:at] + [thing, thing]
                for spool in (0, 7, None, thing):
                    self.refused(refusal(self.works.put, spool, row), NoStretch, ValueError, at=at)

    def test_spools_that_are_not_there(self):
        for thing in [*anything(), deep(20000), 3, 6]:
            if type(thing) is int and 0 <= thing < 3:
                continue
            # Ahead of yards that were put, of too many, of too few that lie there.
            for asked, places in (
                (self.works.put, (thing, [("x", 0, 1, 1)])), (self.works.put, (thing, [("a", 0, 1, 1)])), (self.works.put, (thing, [("x", 0, GREAT, 1)])),
                (self.works.put, (thing, [])), (self.works.take, (thing, 1)), (self.works.take, (thing, GREAT)), (self.works.top, (thing, 1)), (self.works.top, (thing, 0)),
            ):
                error = refusal(asked, *places)
                self.assertIs(type(error), NoSpool)
                self.assertIsInstance(error, IndexError)
                if not isinstance(thing, list):
                    self.assertTrue(same(error.asked, thing))
        self.assertEqual(self.told(), self.before)

    def test_yards_that_were_put(self):
        for row, name in (
            ([("a", 3, 1, 1)], ("a", 3)), ([("a", 9, 9, -1)], ("a", 5)), ([("a", 5, 9, 1)], ("a", 5)), ([("b", 0, 20, 1)], ("b", 7)), ([("b", 30, 30, -1)], ("b", 9)),
            ([("x", 0, 5, 1), ("b", 8, 1, 1)], ("b", 8)), ([("x", 0, 5, 1), ("x", 4, 1, 1)], ("x", 4)), ([("x", 0, 5, 1), ("y", 0, 1, 1), ("x", 9, 7, -1)], ("x", 4)),
            ([("x", 5, 5, 1), ("x", 0, 20, 1)], ("x", 5)), ([("x", 5, 2, 1), ("x", 10, 3, -1), ("x", 20, 20, -1)], ("x", 10)), ([("x", 0, 1, 1), ("x", 0, 1, -1)], ("x", 0)),
            ([("x", 0, 3, 1), ("x", 2, 1, 1), ("a", 0, 1, 1)], ("x", 2)), ([("a", 5, 1, 1), ("a", 0, 1, 1)], ("a", 5)), ([("c", 1, GREAT, 1)], ("c", 1)),
            # Taken off since.
            ([("a", 5, 1, 1)], ("a", 5)),
        ):
            self.refused(refusal(self.works.put, 2, row), Known, LookupError, name=name)
            self.refused(refusal(self.works.put, 2, tuple(row)), Known, LookupError, name=name)
        # Ahead of too many.
        self.refused(refusal(self.works.put, 2, [("x", 0, GREAT, 1), ("x", 0, 1, 1)]), Known, LookupError, name=("x", 0))
        # What was taken back was never put.
        self.works.put(0, [("x", 0, 4, 1)])
        self.assertEqual(refusal(self.works.put, 0, [("x", 3, 1, 1)]).name, ("x", 3))
        self.works.undo()
        self.works.put(0, [("x", 3, 1, 1)])
        self.works.put(0, [("x", 0, 3, 1), ("x", 4, 2, 1)])
        self.assertEqual(self.works.where("x", 1), (0, 1, 1))

    def test_more_taken_than_lie_there(self):
        for spool, lying in ((0, 5), (1, 2), (2, 3)):
            for many in (lying + 1, lying + 7, GREAT):
                self.refused(refusal(self.works.take, spool, many), TooFew, ArithmeticError, at=lying)
        self.works.take(0, 5)
        self.assertEqual(refusal(self.works.take, 0, 1).at, 0)

    def test_rounds_that_are_none(self):
        for thing in [*anything(), deep(20000)]:
            if isinstance(thing, tuple):
                continue
            for times in (1, 0, -1, 5):
                self.refused(refusal(self.works.do, thing, times), NoRound, ValueError, at=None)
        for thing in [*anything(), deep(20000), ("turn", 6), ("wind", 0, 0, 1), ("do", "over", 10)]:
            if thing == ("turn", 0):
                continue
            for times in (1, 0, -1, 5):
                self.refused(refusal(self.works.do, (("turn", 1), ("do", "nobody", 1), thing), times), NoRound, ValueError, at=2)
        for times in (1, 0, -1, 5):
            self.refused(refusal(self.works.do, (("turn", 5),) * 25, times), NoRound, ValueError, at=None)
            self.refused(refusal(self.works.do, (("turn", 5), ("do", "none", 0), ("do", "two", 1)), times), NoName, KeyError, name="none")
            self.refused(refusal(self.works.do, (("do", "over", 9),) * 5, times), TooMany, RuntimeError, many=45)

    def test_rounds_that_cannot_be_done(self):
        for steps, times, at in (
            ((("wind", 1, 0, 3),), 1, 0), ((("turn", 0), ("turn", 3)), 1, 1), ((("turn", 0), ("swap", 0, 4), ("wind", 0, 1, 99)), 5, 1),
            ((("do", "over", 2), ("do", "over", 1)), 1, 2), ((("do", "over", 2), ("turn", 1), ("do", "over", 1)), 2, 3),
            ((("wind", 1, 0, 1), ("wind", 0, 1, 9)), -1, 0), ((("wind", 1, 0, 7), ("turn", 0)), -1, 1), ((("do", "over", 9), ("turn", 0)), -1, 2),
        ):
            self.refused(refusal(self.works.do, steps, times), TooFew, ArithmeticError, at=at)
            self.assertIsNone(refusal(self.works.do, steps, 0))
            self.works.undo()

    def test_uneven_ones(self):
        for times in (2, -2, 3, 9, GREAT, -GREAT):
            for steps in (OVER, (("do", "over", 1), ("turn", 0)), (("swap", 0, 1),)):
                self.refused(refusal(self.works.do, steps, times), Uneven, ArithmeticError, times=times)
        for times in (1, -1, 0):
            self.assertIsNone(refusal(self.works.do, OVER, times))
            self.works.undo()
        # What can't be done the first time is refused so, however often it should be done.
        self.refused(refusal(self.works.do, (("wind", 1, 0, 3),), 2), TooFew, ArithmeticError, at=0)

    def test_no_deed_to_take_back(self):
        for _ in range(4):
            self.works.undo()
        for works in (self.works, Works(2)):
            error = refusal(works.undo)
            self.assertIs(type(error), NoDeed)
            self.assertIsInstance(error, LookupError)

    def test_deeds_that_are_not_there(self):
        for thing in [*anything(), deep(20000), 5, -1, 6]:
            if thing is None or (type(thing) is int and 0 <= thing <= 4):
                continue
            # Ahead of all else.
            for error in (
                refusal(self.works.gauge, upto=thing), refusal(self.works.yard, 0, 0, upto=thing), refusal(self.works.yard, 9, 9, upto=thing),
                refusal(self.works.where, "a", 0, upto=thing), refusal(self.works.where, "z", 0, upto=thing), refusal(self.works.where, None, None, upto=thing),
                refusal(self.works.top, 0, 5, upto=thing), refusal(self.works.top, 7, 5, upto=thing),
            ):
                self.refused(error, NoDeed, LookupError)
        self.assertEqual(self.works.gauge(upto=None), self.works.gauge())
        self.assertEqual(refusal(self.works.top, 3, 5, upto=0).asked, 3)

    def test_places_that_are_not_there(self):
        for thing in [*anything(), deep(20000), 3, 5]:
            if not (type(thing) is int and 0 <= thing < 3):
                self.refused(refusal(self.works.yard, thing, 0), NoSpot, IndexError)
            if not (type(thing) is int and 0 <= thing < 5):
                self.refused(refusal(self.works.yard, 0, thing), NoSpot, IndexError)
        for thing in anything():
            if not (type(thing) is int and 0 <= thing < 3):
                self.refused(refusal(self.works.yard, thing, 0), NoSpot, IndexError, asked=(thing, 0))
                self.refused(refusal(self.works.yard, thing, None), NoSpot, IndexError, asked=(thing, None))
        self.refused(refusal(self.works.yard, 2, 0, upto=2), NoSpot, IndexError, asked=(2, 0))
        self.refused(refusal(self.works.yard, 2, 3), NoSpot, IndexError, asked=(2, 3))
        self.assertEqual(self.works.yard(2, 0, upto=3), ("a", 5, 1))

    def test_yards_that_were_never_put(self):
        for thing in anything():
            self.refused(refusal(self.works.where, thing, 99), NoYard, KeyError, asked=(thing, 99))
            if not (type(thing) is int and 0 <= thing < 6):
                self.refused(refusal(self.works.where, "a", thing), NoYard, KeyError, asked=("a", thing))
            self.refused(refusal(self.works.where, thing, thing), NoYard, KeyError, asked=(thing, thing))
        self.assertIs(type(refusal(self.works.where, deep(20000), deep(20000))), NoYard)
        self.refused(refusal(self.works.where, "c", 0, upto=1), NoYard, KeyError, asked=("c", 0))
        self.refused(refusal(self.works.where, "a", 0, upto=0), NoYard, KeyError, asked=("a", 0))
        for number in (6, -1, HUGE):
            self.refused(refusal(self.works.where, "a", number), NoYard, KeyError, asked=("a", number))

    def test_names(self):
        for thing in [*anything(), deep(20000)]:
            if isinstance(thing, str) and thing in ("a", "none", "abcdefgh", "wind"):
                continue
            error = refusal(self.works.tell, thing, ())
            self.refused(error, BadName, ValueError)
        self.refused(refusal(self.works.tell, "over", None), Known, LookupError, name="over")
        self.refused(refusal(self.works.tell, "new", None), NoRound, ValueError, at=None)
        self.refused(refusal(self.works.tell, "new", (("do", "new", 1),)), NoName, KeyError, name="new")
        self.refused(refusal(self.works.tell, "new", (("do", "over", 9),) * 5), TooMany, RuntimeError, many=45)
        self.works.tell("new", TURN)
        self.assertEqual(self.told(), self.before)


class Kept(unittest.TestCase):
    def test_what_was_handed_in_may_be_changed(self):
        works = Works(2)
        row = [("a", 0, 2, 1), ("a", 2, 2, 1), ("b", 0, 1, -1)]
        works.put(0, row)
        row.clear()
        self.assertEqual(works.deeds(), [("put", 0, (("a", 0, 4, 1), ("b", 0, 1, -1)))])
        self.assertEqual(works.top(0, 9), [("a", 0, 4, 1), ("b", 0, 1, -1)])

    def test_what_is_told_is_new(self):
        works = Works(2)
        works.put(0, [("a", 0, 4, 1)])
        works.deeds().clear()
        works.top(0, 5).clear()
        self.assertEqual((len(works.deeds()), len(works.top(0, 5)), len(works)), (1, 1, 1))

    def test_refusals_keep_what_was_asked(self):
        works = Works(2)
        asked = [[]]
        error = refusal(works.yard, asked, 0)
        asked[0].append(1)
        self.assertEqual(error.asked, ([[]], 0))

    def test_tops(self):
        works = Works(2)
        works.put(0, [("a", 0, 100, 1)])
        for many, told in ((0, []), (1, [("a", 0, 1, 1)]), (59, [("a", 0, 59, 1)]), (60, [("a", 0, 60, 1)]), (61, [("a", 0, 60, 1)]), (GREAT, [("a", 0, 60, 1)])):
            self.assertTrue(same(works.top(0, many), told))
            self.assertEqual(works.top(1, many), [])
            self.assertEqual(works.top(0, many, upto=0), [])
        works.take(0, 70)
        self.assertEqual(works.top(0, 60), [("a", 70, 30, 1)])

    def test_by_names(self):
        works = Works(spools=2)
        works.tell(steps=TURN, name="t")
        works.put(row=[("a", 0, 4, 1)], spool=0)
        works.take(many=1, spool=0)
        works.do(times=3, steps=(("do", "t", 1),))
        works.do(steps=TURN)
        self.assertEqual(works.deeds()[2:], [("do", (("do", "t", 1),), 3), ("do", TURN, 1)])
        self.assertEqual(works.gauge(upto=1), (4, 0))
        self.assertEqual(works.yard(depth=0, spool=0, upto=3), ("a", 3, -1))
        self.assertEqual(works.where(number=3, word="a", upto=2), (0, 2, 1))
        self.assertEqual(works.top(upto=2, many=2, spool=0), [("a", 1, 2, 1)])
        # upto by its name alone.
        for asked, places in ((works.gauge, (1,)), (works.yard, (0, 0, 1)), (works.where, ("a", 1, 1)), (works.top, (0, 0, 1))):
            self.assertIsInstance(refusal(asked, *places), TypeError)


if __name__ == "__main__":
    unittest.main()
