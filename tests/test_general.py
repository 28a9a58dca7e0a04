"""Points 0.2 to 0.5, and the interface: names, arguments, and what is judged."""

import importlib
import inspect
import unittest

from lightfirst import laid
from lightfirst.basics import is_integer, is_lot, is_within
from lightfirst.contents import web_of
from lightfirst.desk import Desk, tale
from lightfirst.disk import Disk
from lightfirst.errors import KeepError, NoKeeping
from lightfirst.house import House
from lightfirst.store import Store
from lightfirst.strangers import least_needed, led, mover_for
from lightfirst.webs import Web
from tests import oracle

FUNCTIONS = {
    "spans": {"rank": 2, "made_of": 3, "nought": 2, "ladder": 2, "is_made": 4, "are_alone": 2, "alike": 3},
    "webs": {"rank_of": 2, "size_of": 2, "can_read": 2, "unread": 2, "lean": 2, "needless": 2, "is_keeping": 2,
             "is_reading": 4, "is_lean": 2, "reading": 3, "lean_keepings": 1},
    "rings": {"is_ring": 2, "ring": 3, "ring_values": 2, "all_rings": 1},
    "lightest": {"lightest": 2, "least_size": 2, "is_lightest": 3, "is_light_paper": 4, "light_paper": 3, "put_in": 3,
                 "put_all": 3},
    "plans": {"moments": 3, "harm": 3, "room_of": 3, "end_of": 3, "is_plan": 4, "turned_back": 1, "idle_pairs": 3,
              "leaned": 3},
    "room": {"least_of": 3, "least_staying": 5, "pressures": 3, "least_room": 3, "least_room_by": 5, "plan_for": 3,
             "plan_by": 5, "plan_within": 4, "bar": 4, "bar_by": 6, "is_bar": 5, "is_bar_by": 7},
    "losses": {"plane": 2, "is_plane": 3, "is_harm": 3, "is_safe": 3, "safety": 2, "harms": 2, "harm_of": 3,
               "lightest_safe": 2, "room_to_mend": 4, "powers": 4},
    "contents": {"content": 3, "parts": 2, "contents": 3, "row_of": 3, "read_row": 3, "web_of": 3, "fits": 2,
                 "agree": 2, "is_spoilt": 3, "spoilt": 2},
    "cuts": {"is_cut": 2, "cut": 3, "cut_row": 2, "all_cuts": 1},
    "leasts": {"in_every": 2, "in_some": 2, "may_grow": 3, "must_shrink": 3, "lightest_with": 3, "leasts": 2,
               "exchanges": 3},
    "floors": {"floor": 3, "is_together": 4, "floors": 2, "sill": 2},
    "tours": {"helpers": 3, "weighers": 3, "tour_room": 2, "tour_plan": 2, "best_order": 3},
    "strangers": {"led": 6, "mover_for": 3, "least_needed": 5},
    "texts": {"web_text": 1, "plan_text": 1, "read_web": 1, "read_plan": 1},
    "desk": {"tale": 5},
    "laid": {"whole": 3, "half": 3, "cells_with": 2, "lying_contents": 3, "meaning": 3, "laid": 4},
}
# The classes, with how many arguments each of their methods takes beside the object.
METHODS = {
    "webs": {"Web": {"__init__": 3, "__eq__": 1}},
    "disk": {"Disk": {"__init__": 1, "write": 2, "reach": 1, "calm": 0, "power": 1, "cut": 0, "read": 1, "lying": 1,
                      "many_cells": 0, "used": 0, "reached": 0, "waiting": 0, "copy": 0}},
    "store": {"Store": {"__init__": 3, "whole": 0, "room": 0, "left": 0, "row": 1, "rows": 0, "turn": 1, "run": 0,
                        "step": 0, "goal": 0, "disk": 0}},
    "house": {"House": {"__init__": 4, "row": 1, "whole": 0, "used": 0, "least_for": 1, "turn": 1, "lighten": 0,
                        "strengthen": 1, "work": 1, "goal": 0, "lose": 1, "lost": 0, "power": 1, "rise": 0, "book": 0}},
    "desk": {"Desk": {"__init__": 4, "tell": 1}},
}

# Arguments that are right, behind the web where a function takes one.
SUMS = ((1, 0), (0, 1))
PLAN = (("write", 2), ("drop", 0))
RIGHT = {
    "rank": (5, SUMS), "made_of": (5, SUMS, (1, 1)), "nought": (5, SUMS), "ladder": (5, SUMS),
    "is_made": (5, SUMS, (1, 1), (1, 1)), "are_alone": (5, SUMS), "alike": (5, SUMS, SUMS),
    "is_reading": ((0, 1), 0, ((0, 1),)), "reading": ((0, 1), 0), "ring": ((0, 1), 2), "ring_values": ((0, 1, 2),),
    "is_ring": ((0, 1, 2),), "lean_keepings": (), "all_rings": (),
    "is_lightest": ((0, 1, 2), (0, 2)), "light_paper": ((0, 1, 2), (0, 2)), "put_in": ((0, 1), 2),
    "is_light_paper": ((0, 1, 2), (0, 2), {1: (0, 1, 2)}), "put_all": ((0, 1), (2,)),
    "moments": ((0, 1), PLAN), "harm": ((0, 1), PLAN), "room_of": ((0, 1), PLAN), "end_of": ((0, 1), PLAN),
    "is_plan": ((0, 1), (1, 2), PLAN), "turned_back": (PLAN,), "idle_pairs": ((0, 1), PLAN), "leaned": ((0, 1), PLAN),
    "least_of": ((0, 1), 5), "least_staying": ((0, 1), 5, (0, 1, 2), (1,)), "pressures": ((0, 2), (1, 2)),
    "least_room": ((0, 2), (1, 2)), "least_room_by": ((0, 2), (1, 2), (0, 1, 2), (2,)), "plan_for": ((0, 2), (1, 2)),
    "plan_by": ((0, 2), (1, 2), (0, 1, 2), (2,)), "plan_within": ((0, 2), (1, 2), 23), "bar": ((0, 2), (1, 2), 22),
    "bar_by": ((0, 2), (1, 2), (0, 1, 2), (2,), 22), "is_bar": ((0, 2), (1, 2), 22, ("from", 10, (0, 2))),
    "is_bar_by": ((0, 2), (1, 2), (0, 1, 2), (2,), 22, ("from", 10, (0, 2))),
    "is_plane": ((0,), (0, 3)), "is_harm": ((0, 1, 2), (0, 1)), "is_safe": ((0, 1, 2), 1),
    "harm_of": ((0, 1, 2), (1, 1)), "lightest_safe": (1,), "room_to_mend": ((0, 1, 2), (1,), (0, 1)),
    "content": (((1, 2), (1, 3)), 0), "parts": ((0, 1),), "contents": (((1, 2), (1, 3)), (0, 1)),
    "row_of": (2, (1, 6)), "read_row": ({0: (1, 2)}, 0), "web_of": (5, ((1, 2), (1, 3)), SUMS),
    "fits": (((1, 2), (1, 3)),), "agree": ({0: (1, 2)},), "spoilt": ({0: (1, 2), 1: (1, 3), 2: (0, 2)},),
    "is_spoilt": ({0: (1, 2), 1: (1, 3), 2: (0, 2)}, ((0, 1, 2), 1)),
    "is_cut": ((0, 1),), "cut": ((0, 2), 0), "cut_row": ((0, 1),), "all_cuts": (),
    "may_grow": ((0, 1, 2), 2), "must_shrink": ((0, 1, 2), 1), "lightest_with": ((0, 1, 2), (1,)),
    "exchanges": ((0, 2), (1, 2)), "floor": ((0, 1), 30), "is_together": ((0, 1), (0, 2), 30), "floors": (30,),
    "helpers": ((0, 2), (1, 2)), "weighers": ((0, 2), (1, 2)), "tour_room": (((0, 2), (1, 2)),),
    "tour_plan": (((0, 2), (1, 2)),), "best_order": ((0, 2), ((1, 2), (0, 1))),
    "web_text": (), "plan_text": (PLAN,), "read_web": ("web 5 2\npiece 3 1,4\n",), "read_plan": ("write 3\n",),
    "powers": (5, 2, 4, 9), "plane": ((0,),), "safety": ((0, 1, 2),), "harms": ((0, 1, 2),),
}
TAKE_NO_WEB = ("turned_back", "powers", "web_of", "plan_text", "read_web", "read_plan")
# These take disks, functions, or rows that fit a web, or return a function.
APART = ("whole", "half", "cells_with", "lying_contents", "meaning", "laid", "led", "mover_for", "least_needed", "tale")
# What these judge last is a number, for which an error is named.
RAISE_FOR_THEIR_LAST = ("is_safe", "is_together")


class Interface(unittest.TestCase):

    def test_functions_stand_in_their_files(self):
        for name, functions in FUNCTIONS.items():
            module = importlib.import_module("lightfirst." + name)
            for told, many in functions.items():
                found = getattr(module, told)
                self.assertTrue(inspect.isfunction(found))
                self.assertEqual(found.__module__, "lightfirst." + name)
                parameters = list(inspect.signature(found).parameters.values())
                self.assertEqual(len(parameters), many)
                for parameter in parameters:
                    self.assertIs(parameter.kind, parameter.POSITIONAL_OR_KEYWORD)
                    self.assertIs(parameter.default, parameter.empty)

    def test_methods_stand_in_their_classes(self):
        for name, classes in METHODS.items():
            module = importlib.import_module("lightfirst." + name)
            for told, methods in classes.items():
                found = getattr(module, told)
                self.assertEqual(found.__module__, "lightfirst." + name)
                for method, many in methods.items():
                    self.assertIn(method, vars(found))
                    self.assertEqual(len(inspect.signature(vars(found)[method]).parameters), many + 1)


class Words(unittest.TestCase):
    """The words of point 0.2."""

    def test_integers(self):
        for thing in (0, 1, -1, 10 ** 60 - 1, -10 ** 60 + 1):
            self.assertIs(is_integer(thing), True)
        for thing in oracle.no_integers():
            self.assertIs(is_integer(thing), False)
            self.assertIs(is_within(-1, 3, thing), False)
        self.assertEqual([k for k in range(-3, 5) if is_within(-1, 3, k)], [-1, 0, 1, 2, 3])

    def test_lots(self):
        right = oracle.subsets((0, 1, 2))
        for thing in oracle.tuples_of(range(-1, 4), 4):
            self.assertIs(is_lot(3, thing), thing in right)
        for thing in oracle.junk():
            self.assertIs(is_lot(40, thing), False)
        self.assertIs(is_lot(0, ()), True)
        self.assertIs(is_lot(0, (0,)), False)


class Judging(unittest.TestCase):
    """Point 0.3: whatever is passed where an error is named or a thing is judged."""

    def calls(self):
        """All calls, each with arguments that are right, and the first place where anything may be passed."""
        web = Web(5, 2, (((1, 0), 10), ((0, 1), 10), ((1, 4), 3)))
        for name, functions in FUNCTIONS.items():
            module = importlib.import_module("lightfirst." + name)
            for told, many in functions.items():
                if told in APART:
                    continue
                right = RIGHT.get(told, ((0, 1),))
                if name != "spans" and told not in TAKE_NO_WEB:
                    right = (web,) + right
                self.assertEqual(len(right), many, told)
                yield getattr(module, told), right, many - len(RIGHT.get(told, ((0, 1),)))
        yield Web, (5, 2, (((1, 0), 10),)), 0

    def calls_with_disks(self):
        """Those that take a disk at a place where no error is named for it."""
        web = web_of(5, ((1, 2), (1, 3)), ((1, 0), (0, 1), (4, 1)))
        disk = laid.laid(web, ((1, 2), (1, 3)), (0, 2), 8)
        for call in (laid.whole, laid.half, laid.lying_contents, laid.meaning):
            yield lambda width, call=call: call(web, width, disk), (2,), 0
        yield lambda piece: laid.cells_with(disk, piece), (0,), 0
        yield laid.laid, (web, ((1, 2), (1, 3)), (0, 2), 8), 1
        yield lambda width: Store(web, width, disk), (2,), 0
        for store in self.stores():
            yield store.row, (0,), 0
            yield store.turn, ((0, 2),), 0
        yield House, (web, ((1, 2), (1, 3)), (0, 2), 8), 1
        house = House(web, ((1, 2), (1, 3)), (0, 2), 8)
        for call, told in ((house.row, (0,)), (house.least_for, ((0, 1),)), (house.turn, ((0, 1, 2),)),
                           (house.strengthen, (1,)), (house.work, (100,)), (house.power, (None,)), (house.lose, (1,))):
            yield call, told, 0
        yield Disk, (8,), 0
        for call, told in ((disk.read, (7,)), (disk.lying, (7,)), (disk.power, (None,)), (disk.write, (7, (1, 2, 3))),
                           (disk.reach, (7,)), (disk.write, (7, ()))):
            yield call, told, 0

    def calls_with_functions(self):
        """Those that take a mover, or lines for a desk."""
        web = Web(5, 2, (((1, 0), 10), ((0, 1), 10), ((1, 4), 3)))
        mover = mover_for(web, (0, 2), (1, 2))
        yield lambda *told: led(web, *told, mover), ((0, 2), (1, 2), 23, 400), 0
        yield lambda *told: least_needed(web, *told[:2], mover, told[2]), ((0, 2), (1, 2), 400), 0
        yield lambda *told: mover_for(web, *told), ((0, 2), (1, 2)), 0
        for thing in oracle.junk():
            yield lambda *told, thing=thing: led(web, *told, lambda view: thing), ((0, 2), (1, 2), 23, 400), 4
        web = web_of(5, ((1, 2), (1, 3)), ((1, 0), (0, 1), (4, 1)))
        yield lambda *told: tale(web, *told), (((1, 2), (1, 3)), (0, 2), 8, ["whole"]), 0
        yield lambda *told: Desk(web, *told), (((1, 2), (1, 3)), (0, 2), 8), 0
        yield Desk(web, ((1, 2), (1, 3)), (0, 2), 8).tell, ("whole",), 0

    def stores(self):
        """A store that was opened."""
        web = web_of(5, ((1, 2), (1, 3)), ((1, 0), (0, 1), (4, 1)))
        yield Store(web, 2, laid.laid(web, ((1, 2), (1, 3)), (0, 2), 8))

    def greatest_things(self):
        """Things as deep and as great as may be passed, by themselves and at places within tuples."""
        deep = [oracle.deep(list, 40), oracle.deep(tuple, 40)]
        great = [(0,) * 20000, [0] * 20000, tuple(range(20000)), ((0, 1),) * 6000, "0" * 20000,
                 {k: k for k in range(999)}]
        return deep + great + [(thing,) for thing in deep] + [(thing, 1) for thing in deep] + [((deep[1][0], 1),)]

    def test_no_other_error(self):
        web = web_of(5, ((1, 2), (1, 3)), ((1, 0), (0, 1), (4, 1)))
        things = oracle.junk() + self.greatest_things() + [NoKeeping(), next(self.stores())]
        things += [make(web, ((1, 2), (1, 3)), (0, 2), 8) for make in (House, Desk)]
        calls = list(self.calls()) + list(self.calls_with_disks()) + list(self.calls_with_functions())
        for call, right, first in calls:
            call(*right)
            for at in range(first, len(right)):
                for thing in things:
                    self.check_call(call, right[:at] + (thing,) + right[at + 1:])

    def check_call(self, call, told):
        try:
            found = call(*told)
        except KeepError:
            return
        if call.__name__.startswith(("is_", "are_")) or call.__name__ == "alike":
            self.assertIs(type(found), bool)

    def test_judges_raise_nothing_for_their_last_argument(self):
        for call, right, _ in self.calls():
            if call.__name__.startswith("is_") and call.__name__ not in RAISE_FOR_THEIR_LAST:
                self.assertIs(call(*right), True)
                for thing in oracle.junk() + self.greatest_things():
                    self.assertIs(call(*right[:-1], thing), False)

    def test_equal_calls_give_equal_answers_and_change_nothing(self):
        for call, right, _ in self.calls():
            self.assertEqual(call(*right), call(*right))
        web = next(right[0] for call, right, _ in self.calls() if call.__name__ == "reading")
        self.assertEqual(web, Web(5, 2, (((1, 0), 10), ((0, 1), 10), ((1, 4), 3))))

    def test_lists_and_dicts_that_are_returned_are_new(self):
        for call, right, _ in self.calls():
            found = call(*right)
            if isinstance(found, (list, dict)):
                again = call(*right)
                found.clear()
                self.assertEqual(call(*right), again)
                self.assertIsNot(call(*right), again)


if __name__ == "__main__":
    unittest.main()
