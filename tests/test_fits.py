import unittest

from spoolrounds.counts import rounds_fit
from spoolrounds.errors import NoSpot
from spoolrounds.far import after, after_paper
from spoolrounds.fits import fit_papers, shows_fit
from spoolrounds.lays import Lay
from spoolrounds.papers import shows
from spoolrounds.rings import whole
from things import GREAT, HUGE, anything, deep, refusal, same
from walks import great_lays, otherwise, small_lays, some, table_of, walked

BY_ONE = Lay(12, [(0, 11, 1, 1), (11, 1, 0, 1)])
# A ring of two spots, one of three which comes back turned over, one of four, a spot that is turned over in place.
APART = Lay(10, [(0, 1, 1, 1), (1, 1, 0, 1), (2, 2, 3, 1), (4, 1, 2, -1), (5, 3, 6, 1), (8, 1, 5, 1), (9, 1, 9, -1)])
MANY_ROWS = 6000


def paper_of(lay, sight):
    """What a sight's paper is of: the laying, the spot looked for."""
    _, to, way = sight
    if way is None:
        return (lay, to)
    return (lay.doubled(), to if way == 1 else 2 * lay.spots() - 1 - to)


def rest_and_by(lay, sight):
    """Walked: the least number of rounds that fits a sight, and how far on the next one is; None twice of none."""
    where, looked = paper_of(lay, sight)
    goes = [to for to, _ in table_of(where)]
    at, rest, rounds = sight[0], None, 0
    while True:
        if at == looked and rest is None:
            rest = rounds
        at, rounds = goes[at], rounds + 1
        if at == sight[0]:
            return (None, None) if rest is None else (rest, rounds)


class Papers(unittest.TestCase):
    def check(self, lay, sights):
        told = fit_papers(lay, sights)
        self.assertIs(type(told), list)
        self.assertEqual(len(told), len(sights))
        for sight, paper in zip(sights, told):
            self.assertIs(type(paper), tuple)
            rest, by, rows = paper
            self.assertIs(type(rows), list)
            where, looked = paper_of(lay, sight)
            start = sight[0]
            facts = [fact for fact, _ in rows]
            if rest is None:
                self.assertIsNone(by)
                self.assertIs(shows(where, [(looked, 1)], rows), True)
                self.assertTrue(any(fact[:3] == (start, 1, start) and fact[5] == 0 for fact in facts))
                continue
            self.assertTrue(0 <= rest < by)
            self.assertIs(shows(where, [(start, 1)], rows), True)
            self.assertTrue(any(fact[:3] == (start, 1, start) and fact[4:] == (by, 1) for fact in facts))
            if rest == 0:
                self.assertEqual(start, looked)
            else:
                self.assertTrue(any(fact[:3] == (start, 1, looked) and fact[4] == rest for fact in facts))
        self.assertIs(shows_fit(lay, sights, rounds_fit(lay, sights), told), True)
        return told

    def test_against_a_walk(self):
        rng = some("fits")
        kinds = {}
        for lay in small_lays("fits", 300, most_spots=14):
            sights = []
            for _ in range(rng.randint(0, 4)):
                start = rng.randrange(lay.spots())
                to, way = walked(lay, start, rng.randrange(30))
                if rng.random() < 0.2:
                    to, way = rng.randrange(lay.spots()), rng.choice((1, -1))
                sights.append((start, to, rng.choice((way, None))))
            for sight, (rest, by, _) in zip(sights, self.check(lay, sights)):
                self.assertTrue(same((rest, by), rest_and_by(lay, sight)))
                kind = (sight[2], min(rest, 1) if rest is not None else None)
                kinds[kind] = kinds.get(kind, 0) + 1
        # Turned over it is nowhere behind no rounds.
        self.assertEqual(len(kinds), 8)
        self.assertGreater(min(kinds.values()), 5)

    def test_told_ones(self):
        for lay, sight, rest, by in (
            (BY_ONE, (3, 3, 1), 0, 12), (BY_ONE, (3, 2, None), 11, 12), (BY_ONE, (3, 3, -1), None, None),
            (APART, (2, 2, 1), 0, 6), (APART, (2, 2, -1), 3, 6), (APART, (2, 2, None), 0, 3), (APART, (4, 2, -1), 1, 6),
            (APART, (4, 2, 1), 4, 6), (APART, (9, 9, -1), 1, 2), (APART, (9, 9, None), 0, 1), (APART, (0, 2, None), None, None),
            (APART, (0, 1, -1), None, None),
        ):
            self.assertEqual([paper[:2] for paper in self.check(lay, [sight])], [(rest, by)])
        self.assertEqual(fit_papers(lay=BY_ONE, sights=[]), [])
        self.assertEqual(fit_papers(BY_ONE, ((0, 3, 1),))[0][:2], (3, 12))

    def test_no_sights(self):
        for lay in (Lay(0, []), BY_ONE, APART):
            self.assertEqual(self.check(lay, []), [])

    def test_great_ones(self):
        rng = some("great fits")
        for name, lay in great_lays(GREAT):
            with self.subTest(name):
                number = rng.randrange(GREAT)
                sights = [(start, *after(lay, start, number)) for start in (0, lay.spots() // 3, lay.spots() - 1)]
                sights += [(start, to, None) for start, to, _ in sights] + [(start, to, -way) for start, to, way in sights]
                for paper in self.check(lay, sights):
                    self.assertLess(len(paper[2]), MANY_ROWS)

    def test_what_is_told_is_new(self):
        fit_papers(APART, [(0, 1, 1)])[0][2].clear()
        self.check(APART, [(0, 1, 1)])


class Looks(unittest.TestCase):
    SIGHTS = [(2, 4, None), (0, 1, 1), (5, 7, 1), (2, 3, -1), (9, 9, None)]

    def setUp(self):
        self.told = rounds_fit(APART, self.SIGHTS)
        self.papers = fit_papers(APART, self.SIGHTS)

    def look(self, told, papers, sights=None):
        return shows_fit(APART, self.SIGHTS if sights is None else sights, told, papers)

    def with_paper(self, at, paper):
        return [*self.papers[:at], paper, *self.papers[at + 1:]]

    def test_just_that(self):
        self.assertEqual(self.told[0], "clash")
        self.assertIs(self.look(self.told, self.papers), True)
        self.assertIs(self.look(self.told, tuple(self.papers), tuple(self.SIGHTS)), True)
        self.assertIs(self.look(self.told, [(rest, by, tuple(rows)) for rest, by, rows in self.papers]), True)
        self.assertIs(shows_fit(lay=APART, sights=self.SIGHTS, told=self.told, papers=self.papers), True)
        self.assertIs(shows_fit(Lay(0, []), [], ("fits", 0, 1), []), True)

    def test_told_otherwise(self):
        for sights, told in (
            ([], ("fits", 0, 1)), ([(0, 1, 1), (2, 4, None)], ("fits", 5, 6)), ([(0, 1, 1), (0, 2, 1)], ("never", 1)),
            ([(0, 0, 1), (0, 1, 1)], ("clash", 0, 1)), ([(0, 2, None)], ("never", 0)), ([(9, 9, 1), (9, 9, -1)], ("clash", 0, 1)),
            ([(9, 9, None)], ("fits", 0, 1)),
        ):
            papers = fit_papers(APART, sights)
            self.assertIs(self.look(told, papers, sights), True)
            self.assertIs(self.look(list(told), papers, sights), False)
            self.assertIs(self.look((*told, 0), papers, sights), False)
            self.assertIs(self.look(told[:-1], papers, sights), False)
            for at in range(1, len(told)):
                for number in (told[at] + 1, told[at] - 1, told[at] + told[-1], -told[at] - 1, HUGE, bool(told[at]), None, [told[at]]):
                    if not same(number, told[at]):
                        self.assertIs(self.look(told[:at] + (number,) + told[at + 1:], papers, sights), False)
            for word in ("fits", "never", "clash", "", None, 0):
                if word != told[0]:
                    self.assertIs(self.look((word, *told[1:]), papers, sights), False)

    def test_papers_of_other_sights(self):
        self.assertIs(self.look(self.told, self.papers[:-1]), False)
        self.assertIs(self.look(self.told, self.papers[1:]), False)
        self.assertIs(self.look(self.told, [*self.papers, self.papers[-1]]), False)
        self.assertIs(self.look(self.told, []), False)
        self.assertIs(self.look(("fits", 0, 1), []), False)
        for at, paper in enumerate(self.papers):
            for k, other in enumerate(self.papers):
                if at != k:
                    self.assertIs(self.look(self.told, self.with_paper(at, other)), False)
            self.assertIs(self.look(self.told, self.with_paper(at, list(paper))), False)
            self.assertIs(self.look(self.told, self.with_paper(at, paper[:2])), False)
            self.assertIs(self.look(self.told, self.with_paper(at, (*paper, 0))), False)

    def test_rests_otherwise(self):
        for at, (rest, by, rows) in enumerate(self.papers):
            for number in (rest + 1, rest - 1, rest + by, rest - by, 0, -1, HUGE, True, False, None):
                if not same(number, rest):
                    self.assertIs(self.look(self.told, self.with_paper(at, (number, by, rows))), False)
            for number in (by + 1, by - 1, 2 * by, 0, -by, HUGE, True, None, rest):
                if not same(number, by):
                    self.assertIs(self.look(self.told, self.with_paper(at, (rest, number, rows))), False)
            self.assertIs(self.look(self.told, self.with_paper(at, (None, None, rows))), False)

    def test_rows_otherwise(self):
        for at, sight in enumerate(self.SIGHTS):
            rest, by, rows = self.papers[at]
            for other in otherwise(rows):
                if shows_fit(APART, [sight], ("fits", rest, by), [(rest, by, other)]):
                    self.assertIs(shows(paper_of(APART, sight)[0], [(sight[0], 1)], other), True)
            self.assertIs(shows_fit(APART, [sight], ("fits", rest, by), [(rest, by, rows[:-1])]), False)
            self.assertIs(shows_fit(APART, [sight], ("fits", rest, by), [(rest, by, [])]), False)

    def test_rows_of_never(self):
        for sight in ((0, 2, None), (0, 2, -1), (0, 1, -1), (9, 8, 1), (5, 5, -1)):
            rows = fit_papers(APART, [sight])[0][2]
            self.assertIs(self.look(("never", 0), [(None, None, rows)], [sight]), True)
            for other in otherwise(rows):
                if self.look(("never", 0), [(None, None, other)], [sight]):
                    self.assertIs(shows(*[paper_of(APART, sight)[0], [(paper_of(APART, sight)[1], 1)], other]), True)
            for paper in ((None, None, rows[:-1]), (None, None, []), (0, 1, rows), (None, 1, rows), (0, None, rows), (None, None, None)):
                self.assertIs(self.look(("never", 0), [paper], [sight]), False)
                self.assertIs(self.look(("fits", 0, 1), [paper], [sight]), False)

    def test_the_least_rest_and_by(self):
        # Twice round is a fact, too, but it has seen the spot twice.
        still = Lay(2, [(0, 2, 0, 1)])
        rows = [((0, 1, 0, 1, 1, 1), ("piece",)), ((0, 1, 0, 1, 2, 2), ("again", 0, 2))]
        self.assertIs(shows_fit(still, [(0, 0, None)], ("fits", 0, 1), [(0, 1, rows)]), True)
        self.assertIs(shows_fit(still, [(0, 0, None)], ("fits", 0, 2), [(0, 2, rows)]), False)
        self.assertIs(shows_fit(still, [(0, 0, None)], ("fits", 1, 2), [(1, 2, rows)]), False)
        # And so it is that rest of it leaves none of the way round.
        there = [((0, 1, 1, 1, 1, 1), ("piece",)), ((1, 1, 0, 1, 1, 0), ("piece",))]
        swap = Lay(2, [(0, 1, 1, 1), (1, 1, 0, 1)])
        there += [((0, 1, 0, 1, 2, 1), ("then", 0, 1)), ((0, 1, 1, 1, 3, 2), ("then", 2, 0)), ((0, 1, 0, 1, 4, 2), ("then", 2, 2))]
        self.assertIs(shows_fit(swap, [(0, 1, None)], ("fits", 1, 2), [(1, 2, there)]), True)
        for rest, by in ((3, 4), (3, 2), (1, 4), (0, 2), (2, 2)):
            self.assertIs(shows_fit(swap, [(0, 1, None)], ("fits", rest, by), [(rest, by, there)]), False)

    def test_facts_of_the_spot_alone(self):
        still = Lay(2, [(0, 2, 0, 1)])
        # Both spots come back, but the lot is one of them: so their stretch is not seen as one.
        self.assertIs(shows_fit(still, [(0, 1, None)], ("never", 0), [(None, None, [((0, 1, 0, 1, 1, 0), ("piece",))])]), True)
        self.assertIs(shows_fit(still, [(0, 1, None)], ("never", 0), [(None, None, [((0, 2, 0, 1, 1, 0), ("piece",))])]), False)
        self.assertIs(shows_fit(still, [(0, 1, None)], ("never", 0), [(None, None, [((1, 1, 1, 1, 1, 1), ("piece",))])]), False)
        self.assertIs(shows_fit(still, [(0, 0, None)], ("never", 0), [(None, None, [((0, 1, 0, 1, 1, 1), ("piece",))])]), False)
        three = Lay(3, [(0, 2, 0, 1), (2, 1, 2, 1)])
        rows = [((0, 2, 0, 1, 1, 0), ("piece",))]
        self.assertIs(shows_fit(three, [(0, 2, None)], ("never", 0), [(None, None, rows)]), False)
        self.assertIs(shows_fit(three, [(0, 2, None)], ("never", 0), [(None, None, [*rows, ((0, 1, 0, 1, 1, 0), ("part", 0))])]), True)

    def test_facts_of_another_spot(self):
        swap = Lay(2, [(0, 1, 1, 1), (1, 1, 0, 1)])
        rows = [((0, 1, 1, 1, 1, 1), ("piece",)), ((1, 1, 0, 1, 1, 0), ("piece",)), ((1, 1, 1, 1, 2, 1), ("then", 1, 0))]
        self.assertIs(shows(swap, [(0, 1)], rows), True)
        self.assertIs(shows_fit(swap, [(0, 1, None)], ("fits", 1, 2), [(1, 2, rows)]), False)
        self.assertIs(shows_fit(swap, [(0, 1, None)], ("fits", 1, 2), [(1, 2, [*rows, ((0, 1, 0, 1, 2, 1), ("then", 0, 1))])]), True)

    def test_papers_of_another_lot(self):
        # Of no lot all is seen never, of all spots always.
        for lot in ([], [(0, 12)], [(1, 11)], [(4, 1)], [(3, 2)]):
            rows = after_paper(BY_ONE, lot, 0, 12)
            self.assertIs(shows_fit(BY_ONE, [(0, 3, None)], ("never", 0), [(None, None, rows)]), False)
            self.assertIs(shows_fit(BY_ONE, [(0, 0, None)], ("fits", 0, 12), [(0, 12, rows)]), False)
        self.assertIs(shows_fit(BY_ONE, [(0, 0, None)], ("fits", 0, 12), [(0, 12, after_paper(BY_ONE, [(0, 1)], 0, 12))]), True)

    def test_the_laying_doubled_just_where_the_way_is_told(self):
        turned = Lay(1, [(0, 1, 0, -1)])
        plain = [((0, 1, 0, -1, 1, 1), ("piece",))]
        doubled = [((0, 1, 1, 1, 1, 1), ("piece",)), ((1, 1, 0, 1, 1, 0), ("piece",)), ((0, 1, 0, 1, 2, 1), ("then", 0, 1))]
        for way, rest, by, rows in ((None, 0, 1, plain), (1, 0, 2, doubled), (-1, 1, 2, doubled)):
            for other in (plain, doubled):
                told = ("fits", rest, by)
                self.assertIs(shows_fit(turned, [(0, 0, way)], told, [(rest, by, other)]), rows is other)

    def test_of_anything(self):
        for thing in [*anything(), deep(20000)]:
            self.assertIs(self.look(thing, self.papers), False)
            self.assertIs(self.look(self.told, thing), False)
            self.assertIs(self.look(thing, thing), False)
            self.assertIs(self.look((thing, *self.told[1:]), self.papers), False)
            self.assertIs(self.look((self.told[0], thing, self.told[2]), self.papers), thing is not True and thing == self.told[1])
            self.assertIs(self.look(self.told, [*self.papers, thing]), False)
            for at, paper in enumerate(self.papers):
                self.assertIs(self.look(self.told, self.with_paper(at, thing)), False)
                for place in range(3):
                    if not same(thing, paper[place]):
                        self.assertIs(self.look(self.told, self.with_paper(at, paper[:place] + (thing,) + paper[place + 1:])), False)
                self.assertIs(self.look(self.told, self.with_paper(at, (*paper[:2], [*paper[2], thing]))), False)
            self.assertIs(shows_fit(Lay(0, []), [], ("fits", 0, 1), thing), isinstance(thing, (list, tuple)) and not thing)


class NoSpots(unittest.TestCase):
    def test_no_spot(self):
        for lay in (BY_ONE, Lay(0, [])):
            for thing in [*anything(), lay.spots(), -1]:
                if type(thing) is int and 0 <= thing < lay.spots():
                    continue
                asked = [[(thing, thing, None)], [(thing, 0, 1)], [(thing, 0, 1), (0, 50, 1)]]
                if lay.spots():
                    asked += [[(0, thing, 1)], [(0, 1, 1), (0, thing, None)], [(0, 0, 1), (0, 1, 1), (5, thing, 1), (13, 14, 1)]]
                for sights in asked:
                    for error in (refusal(fit_papers, lay, sights), refusal(shows_fit, lay, sights, None, thing)):
                        self.assertIs(type(error), NoSpot)
                        self.assertIsInstance(error, IndexError)
                        self.assertTrue(same(error.asked, thing))
        self.assertIs(type(refusal(fit_papers, BY_ONE, [(deep(20000), 0, 1)])), NoSpot)

    def test_the_first_one(self):
        for sights, asked in (
            ([(0, 12, 1), (13, 0, 1)], 12), ([(0, 1, 1), (13, 14, 1)], 13), ([(12, 13, 1)], 12), ([(0, 1, -1), (1, 20, 1)], 20),
        ):
            self.assertEqual(refusal(fit_papers, BY_ONE, sights).asked, asked)
            self.assertEqual(refusal(shows_fit, BY_ONE, sights, ("fits", 0, 1), []).asked, asked)


if __name__ == "__main__":
    unittest.main()
