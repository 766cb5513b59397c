import unittest

from spoolrounds.dyes import are_dyes, dyes_fit, moment, shown, tally
from spoolrounds.errors import NoSpot
from spoolrounds.far import after
from spoolrounds.lays import Lay
from spoolrounds.rings import ring
from things import GREAT, HUGE, WORDS, anything, deep, refusal, same
from walks import great_lays, small_lays, some, table_of

BY_ONE = Lay(7, [(0, 6, 1, 1), (6, 1, 0, 1)])
TURNING = Lay(5, [(0, 4, 1, 1), (4, 1, 0, -1)])
DYES = [(0, 2, "red", "blue"), (2, 1, "blue", "blue"), (3, 4, "none", "red")]
WORDS_OF = ("red", "blue", "green", "a", "abcdefgh")


def any_dyes(rng, total, most=4):
    dyes = []
    at = 0
    while at < total:
        many = min(total - at, rng.randint(1, most))
        dyes.append((at, many, rng.choice(WORDS_OF), rng.choice(WORDS_OF)))
        at += many
    return dyes


def shown_walked(lay, dyes, rounds):
    """Walked yard by yard: what is shown at each spot behind each number of rounds below so many."""
    sides = [(face, back) for _, many, face, back in dyes for _ in range(many)]
    goes = table_of(lay)
    lying = [(spot, 1) for spot in range(lay.spots())]
    out = []
    for _ in range(rounds):
        out.append([sides[yard][0 if way == 1 else 1] for yard, way in lying])
        behind = [None] * lay.spots()
        for spot, (yard, way) in enumerate(lying):
            to, more = goes[spot]
            behind[to] = (yard, way * more)
        lying = behind
    return out


def great_dyes(rng, lay, many=20):
    marks = sorted({0, *[rng.randrange(lay.spots()) for _ in range(many)], lay.spots()})
    return [(a, b - a, rng.choice(WORDS_OF), rng.choice(WORDS_OF)) for a, b in zip(marks, marks[1:])]


class AreDyes(unittest.TestCase):
    def test_such(self):
        for dyes in (DYES, tuple(DYES), [(0, 7, "a", "a")], [(k, 1, "abcdefgh", "z") for k in range(7)], [(0, 3, "a", "b"), (3, 4, "a", "b")]):
            self.assertIs(are_dyes(BY_ONE, dyes), True)
        for none in ([], ()):
            self.assertIs(are_dyes(Lay(0, []), none), True)
            self.assertIs(are_dyes(BY_ONE, none), False)
        self.assertIs(are_dyes(lay=BY_ONE, thing=DYES), True)
        most = Lay(GREAT, [(0, GREAT, 0, 1)])
        self.assertIs(are_dyes(most, [(0, 5, "a", "b"), (5, GREAT - 5, "b", "c")]), True)
        self.assertIs(are_dyes(most, [(0, 5, "a", "b"), (5, GREAT - 6, "b", "c")]), False)
        self.assertIs(are_dyes(most, [(0, 5, "a", "b"), (5, GREAT - 4, "b", "c")]), False)

    def test_what_does_not_fill_the_row_once(self):
        for spans in (
            [(0, 6)], [(0, 8)], [(1, 6)], [(0, 3), (4, 3)], [(0, 4), (3, 4)], [(0, 7), (0, 7)], [(3, 4), (0, 3)], [(0, 3), (3, 4), (7, 1)],
            [(0, 7), (7, 0)], [(0, 0), (0, 7)], [(0, 3), (3, 3), (6, 2)], [(-1, 8)], [(0, 3), (3, 0), (3, 4)], [(0, 8), (8, -1)], [(0, 3), (3, 5), (7, 0)],
            [(2, 1), (3, 4)], [(0, HUGE)], [(-HUGE, HUGE)],
        ):
            self.assertIs(are_dyes(BY_ONE, [(*span, "a", "b") for span in spans]), False)

    def test_otherwise(self):
        for at, dye in enumerate(DYES):
            for place in range(4):
                for thing in [*anything(), deep(20000)]:
                    other = [*DYES[:at], dye[:place] + (thing,) + dye[place + 1:], *DYES[at + 1:]]
                    is_one = same(thing, dye[place]) or (place > 1 and isinstance(thing, str) and thing in WORDS)
                    self.assertIs(are_dyes(BY_ONE, other), is_one)
            for other in (list(dye), dye[:3], (*dye, 0), (*dye, "a"), None, ()):
                self.assertIs(are_dyes(BY_ONE, [*DYES[:at], other, *DYES[at + 1:]]), False)
            self.assertIs(are_dyes(BY_ONE, DYES[:at] + DYES[at + 1:]), False)
            self.assertIs(are_dyes(BY_ONE, [*DYES[:at], dye, *DYES[at:]]), False)

    def test_of_anything(self):
        for thing in [*anything(), deep(20000)]:
            self.assertIs(are_dyes(BY_ONE, thing), False)
            self.assertIs(are_dyes(BY_ONE, [*DYES, thing]), False)
            self.assertIs(are_dyes(BY_ONE, [thing, *DYES]), False)
            self.assertIs(are_dyes(Lay(0, []), thing), isinstance(thing, (list, tuple)) and not thing)


class Shown(unittest.TestCase):
    def test_against_a_walk(self):
        rng = some("dyes")
        for lay in small_lays("dyes", 80):
            dyes = any_dyes(rng, lay.spots())
            walked = shown_walked(lay, dyes, 40)
            backwards = shown_walked(lay.back(), dyes, 40)
            for spot in range(lay.spots()):
                for rounds in (0, 1, 2, 3, 11, 39):
                    self.assertTrue(same(shown(lay, dyes, spot, rounds), walked[rounds][spot]))
                    self.assertEqual(shown(lay, dyes, spot, -rounds), backwards[rounds][spot])
            for spot in (0, lay.spots() - 1):
                for rounds in (0, 1, 7, 40):
                    row = [behind[spot] for behind in walked[:rounds]]
                    self.assertTrue(same(tally(lay, dyes, spot, rounds), [(word, row.count(word)) for word in sorted(set(row))]))
                row = [behind[spot] for behind in walked]
                for word in WORDS_OF:
                    moments = [rounds for rounds in range(40) if row[rounds] == word]
                    for k, rounds in enumerate(moments):
                        self.assertTrue(same(moment(lay, dyes, spot, word, k + 1), rounds))
                    later = moment(lay, dyes, spot, word, len(moments) + 1)
                    self.assertTrue(later is None or later >= 40)
                    # Twice round its ring a yard has shown all that it ever shows.
                    self.assertEqual(later is None, not moments and word not in row)

    def test_told_ones(self):
        for lay, spot, rounds, word in (
            (BY_ONE, 0, 0, "red"), (BY_ONE, 0, 1, "none"), (BY_ONE, 0, -1, "red"), (BY_ONE, 0, -2, "blue"), (BY_ONE, 6, 5, "red"), (BY_ONE, 2, 2, "red"),
            (TURNING, 0, 0, "a"), (TURNING, 0, 1, "z"), (TURNING, 0, 5, "b"), (TURNING, 0, 6, "y"), (TURNING, 0, 10, "a"), (TURNING, 0, -1, "c"),
            (TURNING, 4, -1, "b"), (TURNING, 4, 1, "x"), (TURNING, 4, 4, "a"), (TURNING, 0, GREAT, "a"), (TURNING, 0, -GREAT + 5, "b"),
        ):
            dyes = DYES if lay is BY_ONE else [(0, 1, "a", "b"), (1, 2, "c", "d"), (3, 1, "x", "x"), (4, 1, "y", "z")]
            self.assertEqual(shown(lay, dyes, spot, rounds), word)
            self.assertEqual(shown(lay, tuple(dyes), spot, rounds), word)
        self.assertEqual(shown(lay=BY_ONE, dyes=DYES, spot=1, rounds=0), "red")
        self.assertEqual(tally(lay=BY_ONE, dyes=DYES, spot=0, rounds=9), [("blue", 1), ("none", 5), ("red", 3)])
        self.assertEqual(tally(BY_ONE, DYES, 0, 1), [("red", 1)])
        self.assertEqual(tally(BY_ONE, DYES, 0, 0), [])
        sevens = GREAT // 7
        self.assertEqual(tally(BY_ONE, DYES, 0, GREAT), [("blue", sevens), ("none", 4 * sevens), ("red", 2 * sevens + 1)])
        self.assertEqual(moment(lay=BY_ONE, dyes=DYES, spot=0, word="blue", k=1), 5)
        self.assertEqual(moment(BY_ONE, DYES, 0, "blue", GREAT), 5 + 7 * (GREAT - 1))
        self.assertEqual([moment(BY_ONE, DYES, 0, "red", k) for k in range(1, 6)], [0, 6, 7, 13, 14])

    def test_words_that_are_never_or_always_shown(self):
        lay = Lay(4, [(0, 2, 0, 1), (2, 2, 2, -1)])
        dyes = [(0, 2, "face", "back"), (2, 2, "back", "face")]
        self.assertIsNone(moment(lay, dyes, 0, "back", 1))
        self.assertIsNone(moment(lay, dyes, 0, "green", 1))
        self.assertEqual(moment(lay, dyes, 0, "face", GREAT), GREAT - 1)
        self.assertEqual(tally(lay, dyes, 0, GREAT), [("face", GREAT)])
        self.assertEqual(tally(lay, dyes, 2, GREAT - 1), [("back", GREAT // 2), ("face", GREAT // 2 - 1)])
        self.assertEqual(moment(lay, dyes, 2, "face", GREAT), 2 * GREAT - 1)
        self.assertEqual(moment(lay, dyes, 2, "back", GREAT), 2 * GREAT - 2)

    def test_great_ones(self):
        rng = some("great dyes")
        for name, lay in great_lays(GREAT):
            with self.subTest(name):
                dyes = great_dyes(rng, lay)
                self.assertIs(are_dyes(lay, dyes), True)
                spot = rng.randrange(lay.spots())
                rounds = rng.randrange(GREAT)
                rows = tally(lay, dyes, spot, rounds)
                self.assertEqual(rows, sorted(rows))
                self.assertEqual(sum(many for _, many in rows), rounds)
                for word, many in rows:
                    last = moment(lay, dyes, spot, word, many)
                    self.assertLess(last, rounds)
                    self.assertEqual(shown(lay, dyes, spot, last), word)
                    self.assertGreaterEqual(moment(lay, dyes, spot, word, many + 1), rounds)
                    self.assertEqual(dict(tally(lay, dyes, spot, last + 1))[word], many)
                for there in (rounds, -rounds, GREAT, -GREAT):
                    yard, way = after(lay.back(), spot, there)
                    face, back = next((face, back) for first, many, face, back in dyes if first <= yard < first + many)
                    self.assertEqual(shown(lay, dyes, spot, there), face if way == 1 else back)
                length, way = ring(lay, spot)
                self.assertEqual(shown(lay, dyes, spot, 2 * length + 3), shown(lay, dyes, spot, 3))

    def test_no_spot(self):
        for lay, dyes in ((BY_ONE, DYES), (Lay(0, []), [])):
            for thing in [*anything(), lay.spots(), -1]:
                if type(thing) is int and 0 <= thing < lay.spots():
                    continue
                for error in (
                    refusal(shown, lay, dyes, thing, 5), refusal(tally, lay, dyes, thing, 0), refusal(tally, lay, dyes, thing, 5),
                    refusal(moment, lay, dyes, thing, "red", 1), refusal(moment, lay, dyes, thing, "green", 1), refusal(shown, lay, dyes, thing, 0),
                    refusal(dyes_fit, lay, [(3, thing, "a")]), refusal(dyes_fit, lay, [(3, thing, "a"), (0, 50, "b")]),
                ):
                    self.assertIs(type(error), NoSpot)
                    self.assertIsInstance(error, IndexError)
                    self.assertTrue(same(error.asked, thing))
        self.assertIs(type(refusal(shown, BY_ONE, DYES, deep(20000), 1)), NoSpot)

    def test_what_is_handed_in_stays_and_what_is_told_is_new(self):
        dyes = list(DYES)
        tally(BY_ONE, dyes, 0, 9).clear()
        shown(BY_ONE, dyes, 0, 5)
        moment(BY_ONE, dyes, 0, "red", 5)
        self.assertEqual(dyes, DYES)
        self.assertEqual(len(tally(BY_ONE, dyes, 0, 9)), 3)


class Fit(unittest.TestCase):
    def check(self, lay, sights, told):
        self.assertTrue(same(dyes_fit(lay, sights), told))
        self.assertTrue(same(dyes_fit(lay, tuple(sights)), told))

    def test_told_ones(self):
        for lay, sights, told in (
            (BY_ONE, [], ("fits", [])), (Lay(0, []), [], ("fits", [])), (BY_ONE, [(0, 3, "red")], ("fits", [(3, "face", "red")])),
            (BY_ONE, [(1, 3, "red"), (2, 4, "red"), (-1, 3, "a")], ("fits", [(2, "face", "red"), (4, "face", "a")])),
            (BY_ONE, [(1, 3, "red"), (2, 4, "blue")], ("clash", 0, 1)), (BY_ONE, [(1, 0, "b"), (0, 5, "a")], ("fits", [(5, "face", "a"), (6, "face", "b")])),
            (TURNING, [(0, 0, "b"), (5, 0, "a")], ("fits", [(0, "back", "a"), (0, "face", "b")])),
            (TURNING, [(0, 0, "a"), (5, 0, "a"), (1, 1, "a")], ("fits", [(0, "back", "a"), (0, "face", "a")])),
            (TURNING, [(0, 0, "a"), (5, 0, "b"), (10, 0, "b")], ("clash", 0, 2)), (TURNING, [(0, 0, "a"), (5, 0, "b"), (15, 0, "a")], ("clash", 1, 2)),
            (TURNING, [(GREAT, 0, "a"), (-GREAT, 0, "a"), (5 - GREAT, 0, "c")], ("fits", [(0, "back", "c"), (0, "face", "a")])),
            (TURNING, [(GREAT, 0, "a"), (-GREAT, 0, "c")], ("clash", 0, 1)), (BY_ONE, [(0, 0, "a"), (0, 1, "a"), (0, 1, "a"), (7, 1, "b"), (7, 0, "b")], ("clash", 1, 3)),
            (BY_ONE, [(0, 0, "b"), (0, 1, "a"), (7, 0, "c"), (0, 1, "c")], ("clash", 0, 2)),
        ):
            self.check(lay, sights, told)
        self.assertEqual(dyes_fit(lay=BY_ONE, sights=[(0, 1, "a")]), ("fits", [(1, "face", "a")]))

    def test_against_a_walk(self):
        rng = some("dyes fit")
        kinds = {}
        for lay in small_lays("dyes fit", 250, most_spots=8):
            dyes = any_dyes(rng, lay.spots(), most=2)
            sights = []
            for _ in range(rng.randint(0, 12)):
                rounds, spot = rng.randint(-20, 20), rng.randrange(lay.spots())
                sights.append((rounds, spot, shown(lay, dyes, spot, rounds)))
            if sights and rng.random() < 0.4:
                at = rng.randrange(len(sights))
                sights[at] = (*sights[at][:2], "other")
            told = dyes_fit(lay, sights)
            kinds[told[0]] = kinds.get(told[0], 0) + 1
            sides = []
            for rounds, spot, _ in sights:
                yard, way = after(lay.back(), spot, rounds)
                sides.append((yard, "face" if way == 1 else "back"))
            clashes = [(k, j) for k in range(len(sights)) for j in range(k) if sides[j] == sides[k] and sights[j][2] != sights[k][2]]
            if clashes:
                k, j = min(clashes)
                self.assertTrue(same(told, ("clash", j, k)))
            else:
                self.assertTrue(same(told, ("fits", [(*side, word) for side, word in sorted({side: sight[2] for side, sight in zip(sides, sights)}.items())])))
        self.assertGreater(min(kinds["fits"], kinds["clash"]), 30)

    def test_great_ones(self):
        rng = some("great dyes fit")
        for name, lay in great_lays(GREAT):
            with self.subTest(name):
                dyes = great_dyes(rng, lay)
                sights = []
                for _ in range(4):
                    rounds, spot = rng.randint(-GREAT, GREAT), rng.randrange(lay.spots())
                    sights.append((rounds, spot, shown(lay, dyes, spot, rounds)))
                word, rows = dyes_fit(lay, sights)
                self.assertEqual(word, "fits")
                self.assertEqual(rows, sorted(rows))
                for yard, side, word in rows:
                    face, back = next((face, back) for first, many, face, back in dyes if first <= yard < first + many)
                    self.assertEqual(word, face if side == "face" else back)
                rounds, spot, word = sights[1]
                to, way = after(lay, spot, 1000)
                its = word if way == 1 else "green"
                self.assertEqual(dyes_fit(lay, [*sights, (rounds + 1000, to, "other")])[0], "clash" if way == 1 else "fits")
                self.assertEqual(dyes_fit(lay, [*sights, (rounds + 1000, to, its)])[0], "fits")

    def test_the_first_spot_that_is_not_there(self):
        for sights, asked in (
            ([(0, 7, "a"), (0, 9, "a")], 7), ([(0, 0, "a"), (0, 9, "a"), (0, -1, "a")], 9), ([(0, 0, "a"), (0, 0, "b"), (0, 8, "a")], 8),
            ([(0, 0, "a"), (0, None, "a")], None), ([(0, 0, "a"), (0, True, "a")], True),
        ):
            error = refusal(dyes_fit, BY_ONE, sights)
            self.assertIs(type(error), NoSpot)
            self.assertTrue(same(error.asked, asked))

    def test_what_is_handed_in_stays_and_what_is_told_is_new(self):
        sights = [(0, 0, "a"), (1, 1, "a"), (3, 4, "b")]
        dyes_fit(BY_ONE, sights)[1].clear()
        self.assertEqual(sights, [(0, 0, "a"), (1, 1, "a"), (3, 4, "b")])
        self.assertEqual(len(dyes_fit(BY_ONE, sights)[1]), 2)


if __name__ == "__main__":
    unittest.main()
