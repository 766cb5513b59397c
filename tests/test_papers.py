import unittest

from spoolrounds.lays import Lay
from spoolrounds.papers import is_lot, shows
from things import GREAT, HUGE, anything, deep
from walks import is_so, otherwise, small_lays, small_lot, some

# The spots 0 to 5 go on by two, 6 to 9 come to 1, 0, 9, 8 turned over: so they
# are led by pieces 0..5 -> 2..7, 6..7 -> 0..1 and 8..9 -> 8..9.
LAY = Lay(10, [(0, 6, 2, 1), (6, 2, 0, -1), (8, 2, 8, -1)])
LOT = [(1, 2), (6, 1)]
PIECE = ((3, 3, 5, 1, 1, 0), ("piece",))
BACK = ((6, 1, 1, -1, 1, 1), ("piece",))


def is_small(fact):
    return max(fact) < 100


class Lots(unittest.TestCase):
    def test_lots(self):
        for lot in (
            [], [(0, 10)], [(0, 1)], [(9, 1)], [(0, 3), (3, 7)], [(1, 2), (4, 1), (5, 5)], [(k, 1) for k in range(10)],
        ):
            self.assertIs(is_lot(LAY, lot), True)
            self.assertIs(is_lot(LAY, tuple(lot)), True)
        self.assertIs(is_lot(lay=LAY, thing=[(2, 3)]), True)
        self.assertIs(is_lot(Lay(0, []), []), True)
        self.assertIs(is_lot(Lay(2 * GREAT, [(0, 2 * GREAT, 0, 1)]), [(0, GREAT), (GREAT, GREAT)]), True)

    def test_no_lots(self):
        for lot in (
            [(0, 11)], [(10, 1)], [(9, 2)], [(-1, 2)], [(0, 0)], [(3, -1)], [(0, 3), (2, 1)], [(0, 3), (0, 3)],
            [(4, 1), (1, 1)], [(0, 3), (2, 5), (8, 1)], [(0, 10), (10, 1)], [(0, 3), (5, 0), (6, 1)], [(0, HUGE)], [(HUGE, 1)],
            [(0,)], [(0, 1, 1)], [[0, 1]], [0, 1], (0, 1), [(True, 1)], [(0, True)], [("0", 1)], [(0, None)], [None], [()],
            [(0, 1), None], [(0, (1,))], {}, {(0, 1): True}, "", None,
        ):
            self.assertIs(is_lot(LAY, lot), False)
        self.assertIs(is_lot(Lay(0, []), [(0, 1)]), False)
        self.assertIs(is_lot(Lay(0, []), [(0, 0)]), False)

    def test_of_anything(self):
        for thing in [*anything(), deep(20000)]:
            self.assertIs(is_lot(LAY, thing), isinstance(thing, (list, tuple)) and len(thing) == 0)
            self.assertIs(is_lot(LAY, [thing]), False)
            self.assertIs(is_lot(LAY, [(0, 1), thing]), False)
            self.assertIs(is_lot(LAY, [(thing, 2)]), type(thing) is int and 0 <= thing <= 8)
            self.assertIs(is_lot(LAY, [(1, thing)]), type(thing) is int and 1 <= thing <= 9)

    def test_against_spots(self):
        for first in range(-1, 4):
            for many in range(-1, 5):
                for then in range(-1, 4):
                    fits = first >= 0 and many >= 1 and first + many <= then <= 2
                    self.assertIs(is_lot(Lay(3, [(0, 3, 0, 1)]), [(first, many), (then, 1)]), fits)


class Rules(unittest.TestCase):
    """Each rule, as the document tells it, and each way in which it isn't kept to."""

    def check(self, elder, row, fits, lay=LAY, lot=None):
        lot = LOT if lot is None else lot
        self.assertIs(shows(lay, lot, elder), True)
        self.assertIs(shows(lay, lot, [*elder, row]), fits)

    def test_piece(self):
        rule = ("piece",)
        for fact in (
            (0, 1, 2, 1, 1, 0), (1, 2, 3, 1, 1, 1), (1, 1, 3, 1, 1, 1), (2, 1, 4, 1, 1, 1), (3, 3, 5, 1, 1, 0), (5, 1, 7, 1, 1, 0),
            (6, 1, 1, -1, 1, 1), (7, 1, 0, -1, 1, 0), (8, 2, 8, -1, 1, 0), (8, 1, 9, -1, 1, 0), (9, 1, 8, -1, 1, 0),
        ):
            self.check([], (fact, rule), True)
        for fact in (
            (0, 2, 2, 1, 1, 0), (0, 2, 2, 1, 1, 1), (2, 2, 4, 1, 1, 1), (1, 2, 3, 1, 1, 0), (3, 3, 5, 1, 1, 1),
            (3, 3, 5, 1, 2, 0), (3, 3, 5, 1, 0, 0), (3, 3, 5, -1, 1, 0), (3, 3, 6, 1, 1, 0), (3, 4, 5, 1, 1, 0),
            (7, 2, 0, -1, 1, 0), (7, 1, 0, 1, 1, 0), (8, 1, 8, -1, 1, 0), (8, 3, 8, -1, 1, 0), (-1, 1, 1, 1, 1, 0),
            (10, 1, 10, 1, 1, 0), (3, 0, 5, 1, 1, 0), (3, -1, 5, 1, 1, 0), (6, 2, 0, -1, 1, 1), (HUGE, 1, HUGE, 1, 1, 0),
        ):
            self.check([], (fact, rule), False)

    def test_piece_in_its_one_form(self):
        lay = Lay(4, [(0, 2, 1, 1), (2, 1, 3, 1), (3, 1, 0, 1)])
        self.check([], ((0, 3, 1, 1, 1, 0), ("piece",)), True, lay, [])
        self.check([], ((0, 3, 1, 1, 1, 1), ("piece",)), True, lay, [(0, 1), (1, 2)])
        self.check([], ((0, 3, 1, 1, 1, 1), ("piece",)), False, lay, [(0, 1), (2, 1)])
        self.check([], ((0, 4, 1, 1, 1, 0), ("piece",)), False, lay, [])

    def test_lots_of_none_and_all(self):
        for lot, often in (([], 0), ([(0, 10)], 1), ([(0, 4), (4, 6)], 1), (((0, 10),), 1)):
            for seen in (-1, 0, 1, 2):
                self.check([], ((0, 6, 2, 1, 1, seen), ("piece",)), seen == often, LAY, lot)

    def test_part(self):
        for fact, fits in (
            ((3, 3, 5, 1, 1, 0), True), ((3, 1, 5, 1, 1, 0), True), ((5, 1, 7, 1, 1, 0), True), ((4, 2, 6, 1, 1, 0), True),
            ((4, 2, 5, 1, 1, 0), False), ((4, 3, 6, 1, 1, 0), False), ((2, 2, 4, 1, 1, 0), False), ((4, 0, 6, 1, 1, 0), False),
            ((4, -1, 6, 1, 1, 0), False), ((4, 2, 6, -1, 1, 0), False), ((4, 2, 6, 1, 2, 0), False), ((4, 2, 6, 1, 1, 1), False),
        ):
            self.check([PIECE], (fact, ("part", 0)), fits)
        turned = ((8, 2, 8, -1, 1, 0), ("piece",))
        for fact, fits in (((8, 1, 9, -1, 1, 0), True), ((9, 1, 8, -1, 1, 0), True), ((8, 1, 8, -1, 1, 0), False)):
            self.check([turned], (fact, ("part", 0)), fits)
        self.check([PIECE, BACK], ((3, 1, 5, 1, 1, 0), ("part", 1)), False)

    def test_then(self):
        ahead = ((4, 1, 6, 1, 1, 0), ("piece",))
        for fact, fits in (
            ((4, 1, 1, -1, 2, 1), True), ((4, 1, 1, 1, 2, 1), False), ((4, 1, 1, -1, 1, 1), False), ((4, 1, 1, -1, 2, 0), False),
            ((4, 1, 0, -1, 2, 1), False), ((5, 1, 1, -1, 2, 1), False), ((4, 2, 1, -1, 2, 1), False), ((4, 1, 1, -1, 3, 1), False),
        ):
            self.check([ahead, BACK], (fact, ("then", 0, 1)), fits)
        self.check([ahead, BACK], ((4, 1, 1, -1, 2, 1), ("then", 1, 0)), False)
        self.check([BACK, ahead], ((4, 1, 1, -1, 2, 1), ("then", 1, 0)), True)
        # All of what the first one comes to is to lie within what the second one leads.
        self.check([PIECE, BACK], ((4, 1, 1, -1, 2, 1), ("then", 0, 1)), False)
        self.check([PIECE, BACK], ((3, 3, 5, -1, 2, 1), ("then", 0, 1)), False)

    def test_then_by_ways(self):
        lay = Lay(6, [(0, 3, 3, -1), (3, 3, 0, -1)])
        rows = [((0, 3, 3, -1, 1, 0), ("piece",)), ((3, 3, 0, -1, 1, 0), ("piece",)), ((0, 2, 4, -1, 1, 0), ("part", 0))]
        self.check(rows, ((0, 3, 0, 1, 2, 0), ("then", 0, 1)), True, lay, [])
        self.check(rows, ((0, 2, 0, 1, 2, 0), ("then", 2, 1)), True, lay, [])
        self.check(rows, ((0, 2, 1, 1, 2, 0), ("then", 2, 1)), False, lay, [])
        self.check(rows, ((0, 3, 0, -1, 2, 0), ("then", 0, 1)), False, lay, [])

    def test_one_row_twice(self):
        rows = [((8, 2, 8, -1, 1, 0), ("piece",)), ((8, 2, 8, 1, 2, 0), ("then", 0, 0)), ((8, 2, 8, 1, 4, 0), ("then", 1, 1))]
        self.assertIs(shows(LAY, LOT, rows), True)
        self.check(rows, ((8, 2, 8, 1, 14, 0), ("again", 1, 7)), True)
        self.check(rows, ((8, 2, 8, 1, 4, 0), ("beside", 1, 1)), False)
        self.check(rows, ((8, 4, 8, 1, 2, 0), ("beside", 1, 1)), False)

    def test_again_forwards(self):
        lay = Lay(10, [(0, 7, 3, 1), (7, 3, 0, 1)])
        whole = [((0, 7, 3, 1, 1, 0), ("piece",))]
        for fact, times, fits in (
            ((0, 4, 6, 1, 2, 0), 2, True), ((0, 1, 9, 1, 3, 0), 3, True), ((0, 3, 6, 1, 2, 0), 2, False),
            ((0, 5, 6, 1, 2, 0), 2, False), ((1, 3, 7, 1, 2, 0), 2, False), ((0, 4, 6, 1, 3, 0), 3, False),
            ((0, 1, 9, 1, 3, 0), 2, False), ((0, 7, 3, 1, 1, 0), 1, False), ((0, 7, 0, 1, 0, 0), 0, False),
            ((0, -2, 12, 1, 4, 0), 4, False), ((0, 1, 12, 1, 4, 0), 4, False), ((0, 4, 6, 1, 2, 1), 2, False),
            ((0, 7, 3, 1, -1, 0), -1, False), ((0, 1, 9, 1, HUGE, 0), HUGE, False),
        ):
            self.check(whole, (fact, ("again", 0, times)), fits, lay, [])

    def test_again_backwards(self):
        lay = Lay(10, [(0, 3, 7, 1), (3, 7, 0, 1)])
        whole = [((3, 7, 0, 1, 1, 1), ("piece",))]
        for fact, times, fits in (
            ((6, 4, 0, 1, 2, 2), 2, True), ((9, 1, 0, 1, 3, 3), 3, True), ((3, 4, -3, 1, 2, 2), 2, False),
            ((6, 4, 0, 1, 2, 1), 2, False), ((7, 3, 1, 1, 2, 2), 2, False), ((9, 1, 0, 1, 3, 3), 2, False),
            ((12, 1, 0, 1, 4, 4), 4, False),
        ):
            self.check(whole, (fact, ("again", 0, times)), fits, lay, [(0, 10)])

    def test_again_where_one_spot_is_left_and_where_none_is(self):
        lay = Lay(7, [(0, 6, 1, 1), (6, 1, 0, 1)])
        whole = [((0, 6, 1, 1, 1, 0), ("piece",))]
        for times in range(2, 10):
            self.check(whole, ((0, 7 - times, times, 1, times, 0), ("again", 0, times)), times <= 6, lay, [])

    def test_again_in_place(self):
        lay = Lay(3, [(0, 3, 0, 1)])
        whole = [((0, 3, 0, 1, 1, 1), ("piece",))]
        for times in (2, 3, GREAT, HUGE):
            self.check(whole, ((0, 3, 0, 1, times, times), ("again", 0, times)), True, lay, [(0, 3)])
        turned = [((8, 2, 8, -1, 1, 0), ("piece",))]
        self.check(turned, ((8, 2, 8, 1, 2, 0), ("again", 0, 2)), False)
        self.check(turned, ((8, 2, 8, -1, 2, 0), ("again", 0, 2)), False)

    def test_beside(self):
        rows = [
            ((3, 1, 5, 1, 1, 0), ("piece",)), ((4, 2, 6, 1, 1, 0), ("piece",)), ((8, 1, 9, -1, 1, 0), ("piece",)),
            ((9, 1, 8, -1, 1, 0), ("piece",)), ((2, 1, 4, 1, 1, 1), ("piece",)), ((7, 1, 0, -1, 1, 0), ("piece",)),
            ((3, 1, 7, 1, 2, 0), ("then", 0, 6)),
        ]
        rows.insert(6, ((5, 1, 7, 1, 1, 0), ("piece",)))
        for fact, one, other, fits in (
            ((3, 3, 5, 1, 1, 0), 0, 1, True), ((3, 3, 5, 1, 1, 0), 1, 0, False), ((8, 2, 8, -1, 1, 0), 2, 3, True),
            ((8, 2, 9, -1, 1, 0), 2, 3, False), ((8, 2, 8, -1, 1, 0), 3, 2, False), ((2, 2, 4, 1, 1, 1), 4, 0, False),
            ((2, 2, 4, 1, 1, 0), 4, 0, False), ((7, 2, 0, -1, 1, 0), 5, 2, False), ((3, 3, 5, 1, 2, 0), 0, 1, False),
            ((3, 3, 5, 1, 1, 1), 0, 1, False), ((3, 2, 5, 1, 1, 0), 0, 1, False), ((3, 3, 5, -1, 1, 0), 0, 1, False),
            ((3, 2, 5, 1, 1, 0), 0, 6, False), ((3, 3, 7, 1, 2, 0), 7, 1, False),
        ):
            self.check(rows, (fact, ("beside", one, other)), fits)

    def test_beside_but_not_as_one_piece(self):
        lay = Lay(4, [(0, 2, 0, -1), (2, 2, 2, -1)])
        rows = [((0, 2, 0, -1, 1, 0), ("piece",)), ((2, 2, 2, -1, 1, 0), ("piece",))]
        for to in range(-1, 4):
            self.check(rows, ((0, 4, to, -1, 1, 0), ("beside", 0, 1)), False, lay, [])
        lay = Lay(4, [(0, 2, 2, 1), (2, 2, 0, 1)])
        rows = [((0, 2, 2, 1, 1, 0), ("piece",)), ((2, 2, 0, 1, 1, 0), ("piece",))]
        for to in range(-1, 4):
            self.check(rows, ((0, 4, to, 1, 1, 0), ("beside", 0, 1)), False, lay, [])

    def test_elder_rows_alone(self):
        whole = ((8, 2, 8, -1, 1, 0), ("piece",))
        self.check([], ((8, 2, 8, -1, 1, 0), ("part", 0)), False)
        self.check([whole], ((8, 2, 8, -1, 1, 0), ("part", 1)), False)
        self.check([whole], ((8, 2, 8, -1, 1, 0), ("part", -1)), False)
        self.check([whole], ((8, 2, 8, -1, 1, 0), ("part", HUGE)), False)
        self.check([whole], ((8, 2, 8, 1, 2, 0), ("then", 0, 1)), False)
        self.check([whole], ((8, 2, 8, 1, 2, 0), ("then", -1, 0)), False)
        self.check([whole], ((8, 2, 8, 1, 2, 0), ("then", 0, 0)), True)
        self.assertIs(shows(LAY, LOT, [((8, 1, 9, -1, 1, 0), ("part", 1)), whole]), False)


class OfAnything(unittest.TestCase):
    ROWS = [PIECE, BACK, ((4, 1, 6, 1, 1, 0), ("part", 0)), ((4, 1, 1, -1, 2, 1), ("then", 2, 1))]

    def test_lists_and_tuples(self):
        self.assertIs(shows(LAY, LOT, self.ROWS), True)
        self.assertIs(shows(LAY, tuple(LOT), tuple(self.ROWS)), True)
        self.assertIs(shows(lay=LAY, lot=LOT, rows=self.ROWS), True)
        for lot in ([], LOT):
            self.assertIs(shows(LAY, lot, []), True)
            self.assertIs(shows(Lay(0, []), [], ()), True)

    def test_things(self):
        for thing in [*anything(), deep(20000)]:
            empty = isinstance(thing, (list, tuple)) and len(thing) == 0
            self.assertIs(shows(LAY, LOT, thing), empty)
            self.assertIs(shows(LAY, LOT, [thing]), False)
            self.assertIs(shows(LAY, LOT, [*self.ROWS, thing]), False)
            self.assertIs(shows(LAY, LOT, [thing, *self.ROWS]), False)
            self.assertIs(shows(LAY, LOT, [(thing, ("piece",))]), False)
            self.assertIs(shows(LAY, LOT, [(PIECE[0], thing)]), False)
            self.assertIs(shows(LAY, LOT, [PIECE, (PIECE[0], thing)]), False)

    def test_things_in_each_place(self):
        rows = [*self.ROWS, ((8, 2, 8, -1, 1, 0), ("piece",)), ((8, 2, 8, 1, 2, 0), ("then", 4, 4))]
        rows = [*rows, ((8, 2, 8, 1, 4, 0), ("again", 5, 2))]
        self.assertIs(shows(LAY, LOT, rows), True)
        for thing in [*anything(), deep(20000)]:
            for at, (fact, rule) in enumerate(rows):
                others = [(fact[:place] + (thing,) + fact[place + 1:], rule) for place in range(6)]
                others += [(fact, rule[:place] + (thing,) + rule[place + 1:]) for place in range(1, len(rule))]
                for other in others:
                    # Some of the numbers make other facts that are so.
                    if type(thing) is int and is_small(other[0]) and is_so(LAY, LOT, other[0]):
                        continue
                    self.assertIs(shows(LAY, LOT, [*rows[:at], other]), False)

    def test_kinds(self):
        fact, rule = PIECE
        for row in (
            [fact, rule], (list(fact), rule), (fact, list(rule)), (fact, rule, None), (fact,), (rule, fact), (fact, "piece"),
            (fact, ()), (fact, ("piece", 0)), (fact, ("Piece",)), (fact, ("pieces",)), (fact, (b"piece",)), (fact + (0,), rule),
            (fact[:5], rule), fact, rule, (fact, (("piece",),)), ((3, 3, 5, True, 1, 0), rule), ((3, 3, 5, 1, True, 0), rule),
            ((3, 3, 5, 1, 1, False), rule), (fact, ("piece", None)),
        ):
            self.assertIs(shows(LAY, LOT, [row]), False)
        for rule in (("part",), ("part", 0, 0), ("part", False), ["part", 0], ("part", "0"), ("part", None), ("part", (0,))):
            self.assertIs(shows(LAY, LOT, [PIECE, (fact, rule)]), False)
        still = ((8, 2, 8, -1, 1, 0), ("piece",))
        both = (8, 2, 8, 1, 2, 0)
        for rule in (("then", 0, False), ("then", 0), ("then", 0, 0, 0), ("then", False, 0), ("then", "0", 0)):
            self.assertIs(shows(LAY, LOT, [still, (both, rule)]), False)
        again = [still, (both, ("then", 0, 0)), ((8, 2, 8, 1, 4, 0), ("again", 1, 2))]
        self.assertIs(shows(LAY, LOT, again), True)
        for rule in (("again", True, 2), ("again", 1), ("again", 1, 2, 2), ("again", 1, "2"), ("again", 1, None), ["again", 1, 2]):
            self.assertIs(shows(LAY, LOT, [*again[:2], (again[2][0], rule)]), False)

    def test_no_spots(self):
        for fact in ((0, 1, 0, 1, 1, 0), (0, 0, 0, 1, 1, 0), (-1, 1, -1, 1, 1, 0), (HUGE, 1, HUGE, 1, 1, 0)):
            for rule in (("piece",), ("part", 0), ("then", 0, 0), ("again", 0, 2)):
                self.assertIs(shows(Lay(0, []), [], [(fact, rule)]), False)

    def test_great_numbers(self):
        still = Lay(3, [(0, 3, 0, 1)])
        rows = [((0, 3, 0, 1, 1, 1), ("piece",)), ((0, 3, 0, 1, 10 ** 900, 10 ** 900), ("again", 0, 10 ** 900))]
        self.assertIs(shows(still, [(0, 3)], rows), True)
        more = ((0, 3, 0, 1, 10 ** 990, 10 ** 990), ("again", 1, 10 ** 90))
        self.assertIs(shows(still, [(0, 3)], [*rows, more]), True)
        self.assertIs(shows(still, [(0, 3)], [*rows, ((0, 3, 0, 1, 10 ** 990 + 1, 10 ** 990), more[1])]), False)
        self.assertIs(shows(still, [(0, 3)], [*rows, ((0, 3, 0, 1, HUGE, HUGE), ("again", 1, HUGE))]), False)
        for numbers in ((HUGE,) * 6, (-HUGE,) * 6, (0, HUGE, 0, 1, 1, 1), (-HUGE, HUGE, 0, 1, 1, 1)):
            for rule in (("piece",), ("part", 0), ("then", 0, 0), ("again", 0, HUGE), ("beside", 0, 0), ("part", HUGE)):
                self.assertIs(shows(still, [(0, 3)], [*rows, (numbers, rule)]), False)

    def test_great_layings(self):
        most = 2 * GREAT
        lay = Lay(most, [(0, most - 3, 3, 1), (most - 3, 3, 0, -1)])
        times = most // 3 - 1
        left = most - 3 - (times - 1) * 3
        rows = [
            ((0, most - 3, 3, 1, 1, 0), ("piece",)), ((0, left, times * 3, 1, times, 0), ("again", 0, times)),
            ((most - 3, 3, 0, -1, 1, 0), ("piece",)), ((most - 3, 2, 1, -1, 1, 0), ("part", 2)),
        ]
        self.assertIs(shows(lay, [], rows), True)
        for other in otherwise(rows[:2]):
            if other != rows[:2]:
                self.assertIs(shows(lay, [], other), False)


class LetNothingBy(unittest.TestCase):
    def test_small_papers_with_one_thing_otherwise(self):
        rng = some("papers")
        right = wrong = 0
        for lay in small_lays("papers", 16, most_spots=7, most_pieces=4):
            lot = small_lot(rng, lay)
            rows = self.any_paper(rng, lay, lot)
            self.assertIs(shows(lay, lot, rows), True)
            for other in otherwise(rows):
                if shows(lay, lot, other):
                    right += 1
                    self.assertTrue(all(is_so(lay, lot, fact) for fact, _ in other))
                else:
                    wrong += 1
        self.assertGreater(right, 0)
        self.assertGreater(wrong, 1000)

    def any_paper(self, rng, lay, lot):
        """Rows that a look lets by, found by trying."""
        rows = []
        for first in range(lay.spots()):
            for many in range(1, 3):
                if first + many <= lay.spots():
                    to = min(lay.goes(spot)[0] for spot in range(first, first + many))
                    for often in (0, 1):
                        self.try_row(rows, lay, lot, ((first, many, to, lay.goes(first)[1], 1, often), ("piece",)))
        for _ in range(8):
            (one, _), (other, _) = rng.choice(rows), rng.choice(rows)
            j, k = [fact for fact, _ in rows].index(one), [fact for fact, _ in rows].index(other)
            for end in range(lay.spots()):
                then = (one[0], one[1], end, one[3] * other[3], one[4] + other[4], one[5] + other[5])
                self.try_row(rows, lay, lot, (then, ("then", j, k)))
            self.try_row(rows, lay, lot, ((one[0], one[1] + other[1], min(one[2], other[2])) + one[3:], ("beside", j, k)))
            self.try_row(rows, lay, lot, ((one[0], 1, one[2] if one[3] == 1 else one[2] + one[1] - 1) + one[3:], ("part", j)))
            for start in range(lay.spots()):
                self.try_row(rows, lay, lot, (
                    (start, one[1], start + 2 * (one[2] - one[0]), 1, 2 * one[4], 2 * one[5]), ("again", j, 2)))
        return rows

    def try_row(self, rows, lay, lot, row):
        if row[0][4] < 20 and shows(lay, lot, [*rows, row]):
            self.assertTrue(is_so(lay, lot, row[0]))
            rows.append(row)


if __name__ == "__main__":
    unittest.main()
