import unittest

from spoolrounds.beside import done
from spoolrounds.donepapers import done_paper, shows_done
from spoolrounds.errors import NoLay
from spoolrounds.fits import fit_papers, shows_fit
from spoolrounds.lays import Lay
from spoolrounds.papers import shows
from spoolrounds.rings import rings, shows_rings
from things import GREAT, HUGE, anything, deep, refusal, same
from walks import great_lays, is_so, otherwise, small_lay, some

BY_ONE = Lay(7, [(0, 6, 1, 1), (6, 1, 0, 1)])
# Spots 0 to 3 change places, 4 to 8 are turned about in place, 9 stays, 10 to 13 come back turned about behind two rounds.
APART = Lay(14, [(0, 2, 2, 1), (2, 2, 0, 1), (4, 5, 4, -1), (9, 1, 9, 1), (10, 2, 12, 1), (12, 2, 10, -1)])
SWAP = Lay(2, [(0, 1, 1, 1), (1, 1, 0, 1)])
MANY_ROWS = 40000


def still(total):
    return Lay(total, [(0, total, 0, 1)] if total else [])


def power(lay, times):
    """A laying done so many times, by doing it twice and twice again."""
    made, twice = still(lay.spots()), lay if times >= 0 else lay.back()
    times = abs(times)
    while times:
        if times % 2:
            made = made.then(twice)
        twice, times = twice.then(twice), times // 2
    return made


def sights_of(lay, spots):
    return [(spot, *lay.goes(spot)) for spot in spots]


def parts_of(lay, bases):
    """The first spots of the parts into which the laying's pieces part the bases."""
    starts = [piece[0] for piece in lay.pieces()]
    out = []
    for first, many, *_ in bases:
        out += sorted({first, *[start for start in starts if first < start < first + many]})
    return out


class Papers(unittest.TestCase):
    def check(self, lay, other):
        told = done(lay, other)
        paper = done_paper(lay, other)
        if told[0] == "none":
            self.assertIs(type(paper), list)
            sights = sights_of(lay, told[1])
            found = [shows_fit(other, sights, outcome, paper) for outcome in (("never", 0), ("never", 1), ("clash", 0, 1))]
            self.assertEqual(sum(found), 1)
        else:
            self.assertIs(type(paper), tuple)
            bases, rows, plain, papers = paper
            for part in (bases, rows, plain, papers):
                self.assertIs(type(part), list)
            self.assertIs(shows_rings(other, rings(other), bases, rows), True)
            self.assertIs(shows(other, [], plain), True)
            self.assertNotIn("beside", [rule[0] for _, rule in plain])
            for base in bases:
                self.assertIn((*base[:5], 0), [fact for fact, _ in plain])
            sights = sights_of(lay, parts_of(lay, bases))
            self.assertIs(shows_fit(other, sights, ("fits", *told[1:]), papers), True)
        self.assertIs(shows_done(lay, other, told, paper), True)
        return (told, paper)

    def test_small_ones(self):
        rng = some("done papers")
        kinds = {}
        for _ in range(400):
            other = small_lay(rng, most_spots=7)
            lay = small_lay(rng, most_spots=7)
            if rng.random() < 0.2 or lay.spots() != other.spots():
                lay = power(other, rng.randint(-5, 12))
            told, paper = self.check(lay, other)
            kind = told[0] if told[0] == "times" else len(told[1])
            kinds[kind] = kinds.get(kind, 0) + 1
            if kind == "times":
                for fact, _ in paper[2]:
                    self.assertTrue(is_so(other, [], fact))
        self.assertEqual(set(kinds), {"times", 1, 2})
        self.assertGreater(min(kinds.values()), 3)

    def test_told_ones(self):
        for lay, other, told in (
            (still(0), still(0), ("times", 0, 1)), (still(5), still(5), ("times", 0, 1)), (still(7), BY_ONE, ("times", 0, 7)),
            (BY_ONE, BY_ONE, ("times", 1, 7)), (BY_ONE.back(), BY_ONE, ("times", 6, 7)), (power(BY_ONE, 24), BY_ONE, ("times", 3, 7)),
            (power(APART, 3), APART, ("times", 3, 4)), (Lay(1, [(0, 1, 0, -1)]), Lay(1, [(0, 1, 0, -1)]), ("times", 1, 2)),
        ):
            self.assertEqual(self.check(lay, other)[0], told)
        self.assertEqual(done_paper(still(0), still(0)), ([], [], [], []))
        self.assertEqual(len(done_paper(lay=BY_ONE, other=BY_ONE)), 4)

    def test_none(self):
        for lay, other, many in (
            (BY_ONE, still(7), 1), (Lay(1, [(0, 1, 0, -1)]), still(1), 1), (Lay(3, [(0, 3, 0, -1)]), still(3), 1),
            (Lay(4, [(0, 1, 1, 1), (1, 1, 0, 1), (2, 2, 2, 1)]), Lay(4, [(0, 1, 1, 1), (1, 1, 0, 1), (2, 1, 3, 1), (3, 1, 2, 1)]), 2),
            (Lay(3, [(0, 1, 1, 1), (1, 1, 0, 1), (2, 1, 2, 1)]), Lay(3, [(0, 2, 1, 1), (2, 1, 0, 1)]), None),
            (Lay(7, [(0, 7, 0, -1)]), BY_ONE, None),
        ):
            told, paper = self.check(lay, other)
            self.assertEqual(told[0], "none")
            if many is not None:
                self.assertEqual((len(told[1]), len(paper)), (many, many))

    def test_great_ones(self):
        for name, lay in great_lays(GREAT):
            with self.subTest(name):
                for times in (0, 1, 3, -1):
                    told, (bases, rows, plain, papers) = self.check(power(lay, times), lay)
                    self.assertEqual(told[0], "times")
                    self.assertLess(len(rows) + len(plain) + sum(len(paper[2]) for paper in papers), MANY_ROWS)
                about = Lay(lay.spots(), [(0, lay.spots(), 0, -1)])
                self.check(lay.then(about), lay)

    def test_great_numbers_of_times(self):
        by_one = Lay(GREAT, [(0, GREAT - 1, 1, 1), (GREAT - 1, 1, 0, 1)])
        for times in (2, GREAT // 3, GREAT - 1):
            far = Lay(GREAT, [(0, GREAT - times, times, 1), (GREAT - times, times, 0, 1)])
            self.assertEqual(self.check(far, by_one)[0], ("times", times, GREAT))
            self.check(by_one, far)
        golden = Lay(GREAT, [(0, 618 * GREAT // 1618, GREAT - 618 * GREAT // 1618, 1), (618 * GREAT // 1618, GREAT - 618 * GREAT // 1618, 0, 1)])
        told = self.check(power(golden, GREAT // 7 + 1), golden)[0]
        self.assertEqual((GREAT // 7 + 1 - told[1]) % told[2], 0)

    def test_unlike_totals(self):
        for one, other in ((0, 1), (3, 2), (2, 3)):
            for error in (refusal(done_paper, still(one), still(other)), refusal(shows_done, still(one), still(other), None, None)):
                self.assertIs(type(error), NoLay)
                self.assertIsInstance(error, ValueError)
                self.assertEqual(error.part, "total")

    def test_what_is_told_is_new(self):
        for part in done_paper(BY_ONE, BY_ONE):
            part.clear()
        done_paper(BY_ONE, still(7)).clear()
        self.check(BY_ONE, BY_ONE)
        self.check(BY_ONE, still(7))


class LooksAtTimes(unittest.TestCase):
    def setUp(self):
        self.lay = power(APART, 3)
        self.told = done(self.lay, APART)
        self.paper = done_paper(self.lay, APART)

    def look(self, told, paper):
        return shows_done(self.lay, APART, told, paper)

    def with_part(self, place, part):
        return self.paper[:place] + (part,) + self.paper[place + 1:]

    def test_just_that(self):
        self.assertIs(self.look(self.told, self.paper), True)
        self.assertIs(self.look(self.told, tuple(tuple(part) for part in self.paper)), True)
        self.assertIs(shows_done(lay=self.lay, other=APART, told=self.told, paper=self.paper), True)
        self.assertIs(shows_done(still(0), still(0), ("times", 0, 1), ([], [], [], [])), True)

    def test_told_otherwise(self):
        for told in (
            ("times", 3, 8), ("times", 7, 4), ("times", -1, 4), ("times", 1, 4), ("times", 3, 4, 0), ("times", 3), ("times",), (),
            ["times", 3, 4], ("fits", 3, 4), ("none", 3, 4), ("none", [0]), ("none", [0, 9]), ("times", [3, 4]), ("times", HUGE, 4), None,
            ("never", 0), ("clash", 0, 1),
        ):
            self.assertIs(self.look(told, self.paper), False)
        for told in (("times", 0, 1), ("times", False, True), ("times", 0, True), ("times", False, 1)):
            self.assertIs(shows_done(still(0), still(0), told, ([], [], [], [])), same(told, ("times", 0, 1)))

    def test_another_laying(self):
        for lay in (APART, still(14), power(APART, 2), Lay(14, [(0, 14, 0, -1)]), self.lay.then(Lay(14, [(0, 9, 0, 1), (9, 1, 9, -1), (10, 4, 10, 1)]))):
            self.assertIs(shows_done(lay, APART, self.told, self.paper), False)
        self.assertIs(shows_done(self.lay, APART.back(), self.told, self.paper), False)

    def test_parts_of_the_paper_otherwise(self):
        bases, rows, plain, papers = self.paper
        for place in range(4):
            part = self.paper[place]
            for other in (part[:-1], part[1:], [], [*part, part[-1]], [*part, part[0]], part[::-1], [*part, None], None, {}):
                if place in (1, 2) and other == [*part, part[0]]:
                    self.assertIs(self.look(self.told, self.with_part(place, other)), True)
                    continue
                if place in (1, 2) and (other == part[:-1] or other == [*part, part[-1]] or other == part[::-1]):
                    continue
                self.assertIs(self.look(self.told, self.with_part(place, other)), False)
            self.assertIs(self.look(self.told, self.paper[:place] + self.paper[place + 1:]), False)
        self.assertIs(self.look(self.told, list(self.paper)), False)
        self.assertIs(self.look(self.told, (*self.paper, [])), False)
        self.assertIs(self.look(self.told, papers), False)

    def test_bases_otherwise(self):
        bases = self.paper[0]
        for at, base in enumerate(bases):
            for place in range(6):
                for number in (base[place] + 1, base[place] - 1, -base[place] - 1, HUGE, True, None, [base[place]]):
                    if not same(number, base[place]):
                        other = base[:place] + (number,) + base[place + 1:]
                        self.assertIs(self.look(self.told, self.with_part(0, [*bases[:at], other, *bases[at + 1:]])), False)
            self.assertIs(self.look(self.told, self.with_part(0, [*bases[:at], list(base), *bases[at + 1:]])), False)
            self.assertIs(self.look(self.told, self.with_part(0, bases[:at] + bases[at + 1:])), False)
            self.assertIs(self.look(self.told, self.with_part(0, [*bases[:at], base, *bases[at:]])), False)

    def test_rows_otherwise(self):
        lot = [base[:2] for base in self.paper[0]]
        for place, its_lot in ((1, lot), (2, [])):
            for other in otherwise(self.paper[place]):
                if self.look(self.told, self.with_part(place, other)):
                    self.assertIs(shows(APART, its_lot, other), True)
                    self.assertTrue(all(is_so(APART, its_lot, fact) for fact, _ in other))

    def test_papers_otherwise(self):
        papers = self.paper[3]
        self.assertGreater(len(papers), 3)
        for at, paper in enumerate(papers):
            for k, other in enumerate(papers):
                if k != at:
                    self.assertIs(self.look(self.told, self.with_part(3, [*papers[:at], other, *papers[at + 1:]])), False)
            for other in (list(paper), paper[:2], (paper[0] + paper[1], *paper[1:]), (None, None, paper[2]), (*paper[:2], []), None):
                self.assertIs(self.look(self.told, self.with_part(3, [*papers[:at], other, *papers[at + 1:]])), False)
            self.assertIs(self.look(self.told, self.with_part(3, papers[:at] + papers[at + 1:])), False)

    def test_each_base_goes_as_one_stretch(self):
        # Four spots change places in two pieces, beside one another again behind two rounds: as one they may not be a base.
        other = Lay(4, [(0, 1, 3, 1), (1, 1, 2, 1), (2, 1, 1, 1), (3, 1, 0, 1)])
        facts = [(0, 1, 3, 1), (1, 1, 2, 1), (2, 1, 1, 1), (3, 1, 0, 1)]
        for seen in (1, 0):
            rows = [((*fact, 1, seen if fact[0] < 2 else 0), ("piece",)) for fact in facts]
            rows += [((0, 1, 0, 1, 2, seen), ("then", 0, 3)), ((1, 1, 1, 1, 2, seen), ("then", 1, 2))]
            rows += [((0, 2, 0, 1, 2, seen), ("beside", 4, 5))]
            if seen:
                shown, one = rows, [(0, 2, 0, 1, 2, 1)]
            else:
                plain = rows
        self.assertIs(shows_rings(other, [(2, 1, 2)], one, shown), True)
        self.assertIs(shows(other, [], plain), True)
        papers = fit_papers(other, [(0, *other.goes(0)), (1, *other.goes(1))])
        self.assertEqual(done(other, other), ("times", 1, 2))
        self.assertIs(shows_done(other, other, ("times", 1, 2), (one, shown, plain, papers)), False)
        self.assertIs(shows_done(other, other, ("times", 1, 2), (one, shown, plain, papers[:1])), False)
        # So a laying that leads them otherwise than any number of rounds would be let by.
        both = [(0, 1, 0, 1, 2, 1), (1, 1, 1, 1, 2, 1)]
        self.assertIs(shows_done(other, other, ("times", 1, 2), (both, shown[:-1], plain[:-1], papers)), True)
        self.assertIs(shows_done(other, other, ("times", 1, 2), (both, shown[:-1], plain, papers)), False)
        self.assertIs(shows_done(other, other, ("times", 1, 2), (both, shown, plain[:-1], papers)), True)
        self.assertIs(shows_done(other, other, ("times", 1, 2), (both, shown[:-1], plain[:-2], papers)), False)

    def test_the_same_in_either_order(self):
        # The first spots of both parts go as they should, but not what comes behind them on the ring.
        other = Lay(4, [(0, 2, 2, 1), (2, 2, 0, 1)])
        lay = Lay(4, [(0, 2, 2, 1), (2, 1, 1, 1), (3, 1, 0, 1)])
        bases, rows, plain, papers = done_paper(other, other)
        self.assertEqual(len(bases), 1)
        told = ("times", 1, 2)
        self.assertIs(shows_done(other, other, told, (bases, rows, plain, papers)), True)
        self.assertEqual(parts_of(lay, bases), parts_of(other, bases))
        self.assertIs(shows_done(lay, other, told, (bases, rows, plain, papers)), False)

    def test_of_anything(self):
        for thing in [*anything(), deep(20000)]:
            self.assertIs(self.look(thing, self.paper), False)
            self.assertIs(self.look(self.told, thing), False)
            self.assertIs(self.look(thing, thing), False)
            for place in range(3):
                if not same(thing, self.told[place]):
                    self.assertIs(self.look(self.told[:place] + (thing,) + self.told[place + 1:], self.paper), False)
            for place in range(4):
                self.assertIs(self.look(self.told, self.with_part(place, thing)), False)
                self.assertIs(self.look(self.told, self.with_part(place, [*self.paper[place], thing])), False)
            for told in (("none", thing), ("none", [thing]), ("none", [0, thing]), ("none", [thing, 0])):
                self.assertIs(self.look(told, self.paper[3][:1]), False)
                self.assertIs(self.look(told, self.paper[3][:2]), False)


class LooksAtNone(unittest.TestCase):
    BOTH = Lay(4, [(0, 1, 1, 1), (1, 1, 0, 1), (2, 1, 3, 1), (3, 1, 2, 1)])
    ONE = Lay(4, [(0, 1, 1, 1), (1, 1, 0, 1), (2, 2, 2, 1)])

    def look(self, told, papers, lay=None):
        return shows_done(self.ONE if lay is None else lay, self.BOTH, told, papers)

    def test_any_spots_that_no_number_leads_so(self):
        for spots in ([0, 2], [2, 0], [1, 3], (0, 3)):
            papers = fit_papers(self.BOTH, sights_of(self.ONE, spots))
            self.assertIs(self.look(("none", spots), papers), True)
            self.assertIs(self.look(("none", spots), tuple(papers)), True)
        crossed = Lay(4, [(0, 1, 2, 1), (1, 2, 0, 1), (3, 1, 3, 1)])
        for spots in ([0], [2], [0, 3], [3, 0], [1, 2]):
            self.assertIs(self.look(("none", spots), fit_papers(self.BOTH, sights_of(crossed, spots)), crossed), True)

    def test_spots_that_some_number_leads_so(self):
        for spots in ([0], [2], [0, 1], [2, 3], [3]):
            self.assertIs(self.look(("none", spots), fit_papers(self.BOTH, sights_of(self.ONE, spots))), False)
        for spots in ([0], [3], [0, 3]):
            self.assertIs(self.look(("none", spots), fit_papers(self.BOTH, sights_of(self.BOTH, spots)), self.BOTH), False)

    def test_otherwise(self):
        papers = fit_papers(self.BOTH, sights_of(self.ONE, [0, 2]))
        for told in (
            ("none", [0]), ("none", [2]), ("none", [2, 0]), ("none", [0, 2, 1]), ("none", []), ("none", [0, 3]), ("none", [0, 4]), ("none", [-4, 2]),
            ("none", 0), ("none", 0, 2), ("none",), ["none", [0, 2]], ("none", [False, 2]), ("none", [0, None]), ("none", [0, [2]]), ("none", {0: 2}),
            ("never", [0, 2]), ("times", [0, 2]), ("times", 0, 2), (None, [0, 2]), ([0, 2],), None, (), ("none", [0, 2], None), ("none", None),
        ):
            self.assertIs(self.look(told, papers), False)
        for other in (papers[:1], papers[::-1], [*papers, papers[0]], [], None, (*papers, None), [papers[0], papers[0]], [list(papers[0]), papers[1]]):
            self.assertIs(self.look(("none", [0, 2]), other), False)
        for place in range(2):
            rest, by, rows = papers[place]
            for paper in ((rest + 1, by, rows), (rest, by + 1, rows), (None, None, rows), (rest, by, []), (rest, by), None):
                self.assertIs(self.look(("none", [0, 2]), [*papers[:place], paper, *papers[place + 1:]]), False)
        self.assertIs(self.look(("none", [0, 2]), done_paper(self.BOTH, self.BOTH), self.BOTH), False)

    def test_three_spots_are_too_many(self):
        spots = [0, 2, 1]
        papers = fit_papers(self.BOTH, sights_of(self.ONE, spots))
        self.assertIs(shows_fit(self.BOTH, sights_of(self.ONE, spots), ("clash", 0, 1), papers), True)
        self.assertIs(self.look(("none", spots), papers), False)

    def test_of_anything(self):
        papers = fit_papers(self.BOTH, sights_of(self.ONE, [0, 2]))
        for thing in [*anything(), deep(20000)]:
            self.assertIs(self.look(thing, papers), False)
            self.assertIs(self.look(("none", [0, 2]), thing), False)
            self.assertIs(self.look(("none", thing), papers), False)
            self.assertIs(self.look((thing, [0, 2]), papers), thing == "none" and isinstance(thing, str))
            self.assertIs(self.look(("none", [0, thing]), papers), same(thing, 2))
            self.assertIs(self.look(("none", [thing, 2]), papers), same(thing, 0))
            for place in range(2):
                self.assertIs(self.look(("none", [0, 2]), [*papers[:place], thing, *papers[place + 1:]]), False)


if __name__ == "__main__":
    unittest.main()
