"""Each function, class and method called by places and by the names of the interface, in any order."""

import copy
import importlib
import unittest

from spoolrounds.desk import Desk
from spoolrounds.lays import Lay
from spoolrounds.rounds import Rounds
from spoolrounds.works import Works
from test_form import CLASSES, FUNCTIONS
from things import refusal, same

LAY = Lay(7, [(0, 5, 2, 1), (5, 2, 0, -1)])
OTHER = LAY.then(LAY)
LOT = [(1, 2), (4, 1)]
TURN = (("turn", 0),)
DYES = [(0, 3, "a", "b"), (3, 4, "b", "c")]
ONE = ((("a", 0, 2, 1),), (("b", 1, 1, -1),), ())
TWO = ((), (("b", 1, 1, -1),), (("a", 1, 2, -1),))
SIGHTS = [(0, 2, 1), (1, 3, None)]
ROW = [("a", 0, 2, 1), ("a", 2, 2, 1)]
PAPER = [((0, 5, 2, 1, 1, 0), ("piece",))]


def calls():
    """What each function may be called with, its arguments in their order."""
    book = Rounds()
    book.tell("t", TURN)
    fit, fits = told("counts", "rounds_fit")(LAY, SIGHTS), told("fits", "fit_papers")(LAY, SIGHTS)
    bases, rows = told("rings", "rings_paper")(LAY)
    return {
        "is_word": ["a"], "is_stretch": [("a", 0, 1, 1)], "is_row": [ROW], "joined": [ROW], "yards": [ROW], "turned": [ROW], "parted": [ROW, 1],
        "threads.yard": [ROW, 3], "find": [ROW, "a", 3], "show_row": [ROW], "read_row": ["a 0..3"], "is_round": [TURN], "is_gauge": [(1, 2)],
        "spot": [(1, 2), 1, 0], "place": [(1, 2), 2], "behind": [book, TURN, (1, 2)], "is_even": [book, (("do", "t", 1),), (1, 2)],
        "lay_of": [book, TURN, (3, 2)], "laid": [LAY, [("a", 1, 7, 1)]], "is_lot": [LAY, LOT], "shows": [LAY, [], PAPER],
        "after": [LAY, 3, -5], "visits": [LAY, LOT, 3, 9], "after_paper": [LAY, LOT, 3, 9],
        "shows_after": [LAY, LOT, 3, 9, (0, 1, 1), told("far", "after_paper")(LAY, LOT, 3, 9)], "first_table": [LAY, LOT], "table_paper": [LAY, LOT],
        "shows_table": [LAY, LOT, told("comings", "first_table")(LAY, LOT), told("comings", "table_paper")(LAY, LOT)], "comes": [LAY, LOT, 3], "comes_paper": [LAY, LOT, 3],
        "shows_comes": [LAY, LOT, 3, told("comings", "comes")(LAY, LOT, 3), told("comings", "comes_paper")(LAY, LOT, 3)], "visit": [LAY, LOT, 3, 4],
        "ring": [LAY, 3], "rings": [LAY], "whole": [LAY], "rings_paper": [LAY], "shows_rings": [LAY, told("rings", "rings")(LAY), bases, rows],
        "side_by_side": [LAY, 3], "either_order": [LAY, OTHER], "done": [OTHER, LAY], "done_paper": [OTHER, LAY],
        "shows_done": [OTHER, LAY, told("beside", "done")(OTHER, LAY), told("donepapers", "done_paper")(OTHER, LAY)],
        "rounds_fit": [LAY, SIGHTS], "fit_papers": [LAY, SIGHTS], "shows_fit": [LAY, SIGHTS, fit, fits],
        "are_dyes": [LAY, DYES], "shown": [LAY, DYES, 3, -8], "tally": [LAY, DYES, 3, 8], "moment": [LAY, DYES, 3, "b", 2], "dyes_fit": [LAY, [(3, 0, "a")]],
        "is_standing": [ONE], "wound": [ONE, [("wind", 0, 2, 1)]], "way_there": [ONE, TWO], "fewest": [ONE, TWO],
        "show_paper": [PAPER], "read_paper": ["none"], "show_round": [TURN], "read_round": ["turn 0"],
    }


def told(module, name):
    return getattr(importlib.import_module(f"spoolrounds.{module}"), name)


class Functions(unittest.TestCase):
    def test_by_places_and_by_names(self):
        asked = calls()
        for module, functions in FUNCTIONS.items():
            for name, names in functions.items():
                with self.subTest(f"{module}.{name}"):
                    found = told(module, name)
                    places = asked[name if name in asked else f"{module}.{name}"]
                    self.assertEqual(len(places), len(names))
                    before = copy.deepcopy(places)
                    answer = found(*places)
                    self.assertTrue(same(found(**dict(zip(names, places))), answer))
                    self.assertTrue(same(found(**dict(reversed(list(zip(names, places))))), answer))
                    self.assertTrue(same(found(*places[:1], **dict(zip(names[1:], places[1:]))), answer))
                    # Lists may be tuples, and nothing that is handed in is changed.
                    self.assertTrue(same(found(*[tuple(part) if isinstance(part, list) else part for part in places]), answer))
                    for part, was in zip(places, before):
                        self.assertTrue(same(part, was) if not hasattr(part, "names") else part.names() == was.names())

    def test_what_is_told_is_new(self):
        for name, places in calls().items():
            module = name.split(".")[0] if "." in name else next(module for module, functions in FUNCTIONS.items() if name in functions)
            found = told(module, name.split(".")[-1])
            with self.subTest(name):
                first = found(*places)
                was = copy.deepcopy(first)
                self.clear(first)
                self.assertTrue(same(found(*places), was))

    def clear(self, thing):
        for part in thing if isinstance(thing, (list, tuple)) else ():
            self.clear(part)
        if isinstance(thing, list):
            thing.clear()


class Methods(unittest.TestCase):
    def test_all_of_them(self):
        self.assertEqual(set(CLASSES), {("rounds", "Rounds"), ("lays", "Lay"), ("works", "Works"), ("desk", "Desk")})
        book = Rounds()
        self.assertIsNone(book.tell(steps=TURN, name="t"))
        self.assertEqual((book.steps(name="t"), book.names(), book.written(steps=(("do", "t", 1),))), (TURN, ["t"], [("turn", 0)]))
        lay = Lay(pieces=LAY.pieces(), total=7)
        self.assertEqual((lay == LAY, len(lay), lay.spots(), lay.goes(spot=0), lay.then(other=LAY) == OTHER, lay.back().back() == lay), (True, 2, 7, (2, 1), True, True))
        self.assertEqual(lay.doubled().spots(), 14)
        self.assertEqual(Desk().say(row="gauge"), "0 0 0")
        works = Works(spools=2)
        for told_none in (
            works.tell(name="t", steps=TURN), works.put(spool=0, row=ROW), works.take(spool=0, many=1), works.do(steps=TURN), works.do(steps=TURN, times=2), works.undo(),
        ):
            self.assertIsNone(told_none)
        self.assertEqual((works.gauge(), works.yard(0, 0), works.where("a", 1), works.top(0, 5), len(works)), ((3, 0), ("a", 3, -1), (0, 2, -1), [("a", 3, 3, -1)], 3))

    def test_behind_a_star_by_name_alone(self):
        works = Works(2)
        for error in (refusal(works.gauge, 0), refusal(works.yard, 0, 0, 0), refusal(works.where, "a", 0, 0), refusal(works.top, 0, 0, 0)):
            self.assertIs(type(error), TypeError)
        self.assertEqual((works.gauge(upto=0), works.top(0, 5, upto=0), works.top(upto=0, many=5, spool=0)), ((0, 0), [], []))


if __name__ == "__main__":
    unittest.main()
