"""Points 0.2 to 0.5, and the interface: names, arguments, and what is judged."""

import importlib
import inspect
import unittest

from lightfirst.basics import is_integer, is_lot, is_within
from lightfirst.errors import KeepError, NoKeeping
from lightfirst.webs import Web
from tests import oracle

FUNCTIONS = {
    "spans": {"rank": 2, "made_of": 3, "nought": 2, "ladder": 2, "is_made": 4, "are_alone": 2, "alike": 3},
    "webs": {"rank_of": 2, "size_of": 2, "can_read": 2, "unread": 2, "lean": 2, "needless": 2, "is_keeping": 2,
             "is_reading": 4, "is_lean": 2, "reading": 3, "lean_keepings": 1},
    "rings": {"is_ring": 2, "ring": 3, "ring_values": 2, "all_rings": 1},
}
METHODS = {"webs": {"Web": ("__init__", "__eq__")}}


class Interface(unittest.TestCase):

    def test_functions_stand_in_their_files(self):
        for name, functions in FUNCTIONS.items():
            module = importlib.import_module("lightfirst." + name)
            for told, many in functions.items():
                found = getattr(module, told)
                self.assertTrue(inspect.isfunction(found))
                self.assertEqual(found.__module__, "lightfirst." + name)
                parameters = list(inspect.signature(found).parameters.values())
                self.assertEqual(len(parameters), many)
                for parameter in parameters:
                    self.assertIs(parameter.kind, parameter.POSITIONAL_OR_KEYWORD)
                    self.assertIs(parameter.default, parameter.empty)

    def test_methods_stand_in_their_classes(self):
        for name, classes in METHODS.items():
            module = importlib.import_module("lightfirst." + name)
            for told, methods in classes.items():
                found = getattr(module, told)
                self.assertEqual(found.__module__, "lightfirst." + name)
                for method in methods:
                    self.assertIn(method, vars(found))

    def test_arguments_of_web(self):
        self.assertEqual(len(inspect.signature(Web).parameters), 3)


class Words(unittest.TestCase):
    """The words of point 0.2."""

    def test_integers(self):
        for thing in (0, 1, -1, 10 ** 60 - 1, -10 ** 60 + 1):
            self.assertIs(is_integer(thing), True)
        for thing in oracle.no_integers():
            self.assertIs(is_integer(thing), False)
            self.assertIs(is_within(-1, 3, thing), False)
        self.assertEqual([k for k in range(-3, 5) if is_within(-1, 3, k)], [-1, 0, 1, 2, 3])

    def test_lots(self):
        right = oracle.subsets((0, 1, 2))
        for thing in oracle.tuples_of(range(-1, 4), 4):
            self.assertIs(is_lot(3, thing), thing in right)
        for thing in oracle.junk():
            self.assertIs(is_lot(40, thing), False)
        self.assertIs(is_lot(0, ()), True)
        self.assertIs(is_lot(0, (0,)), False)


class Judging(unittest.TestCase):
    """Point 0.3: whatever is passed where an error is named or a thing is judged."""

    def calls(self):
        """All calls, each with arguments that are right, and the first place where anything may be passed."""
        web = Web(5, 2, (((1, 0), 10), ((0, 1), 10), ((1, 4), 3)))
        sums = ((1, 0), (0, 1))
        right = {
            "rank": (5, sums), "made_of": (5, sums, (1, 1)), "nought": (5, sums), "ladder": (5, sums),
            "is_made": (5, sums, (1, 1), (1, 1)), "are_alone": (5, sums), "alike": (5, sums, sums),
            "is_reading": (web, (0, 1), 0, ((0, 1),)), "reading": (web, (0, 1), 0), "ring": (web, (0, 1), 2),
            "ring_values": (web, (0, 1, 2)), "is_ring": (web, (0, 1, 2)),
        }
        for name, functions in FUNCTIONS.items():
            module = importlib.import_module("lightfirst." + name)
            for told, many in functions.items():
                if told not in ("lean_keepings", "all_rings"):
                    yield getattr(module, told), right.get(told, (web, (0, 1))), 0 if name == "spans" else 1
        yield Web, (5, 2, (((1, 0), 10),)), 0

    def greatest_things(self):
        """Things as deep and as great as may be passed, by themselves and at places within tuples."""
        deep = [oracle.deep(list, 40), oracle.deep(tuple, 40)]
        great = [(0,) * 20000, [0] * 20000, tuple(range(20000)), ((0, 1),) * 6000, "0" * 20000,
                 {k: k for k in range(999)}]
        return deep + great + [(thing,) for thing in deep] + [(thing, 1) for thing in deep] + [((deep[1][0], 1),)]

    def test_no_other_error(self):
        things = oracle.junk() + self.greatest_things() + [NoKeeping()]
        for call, right, first in self.calls():
            call(*right)
            for at in range(first, len(right)):
                for thing in things:
                    self.check_call(call, right[:at] + (thing,) + right[at + 1:])

    def check_call(self, call, told):
        try:
            found = call(*told)
        except KeepError:
            return
        if call.__name__.startswith(("is_", "are_")) or call.__name__ == "alike":
            self.assertIs(type(found), bool)

    def test_judges_raise_nothing_for_their_last_argument(self):
        for call, right, _ in self.calls():
            if call.__name__.startswith("is_"):
                self.assertIs(call(*right), True)
                for thing in oracle.junk() + self.greatest_things():
                    self.assertIs(call(*right[:-1], thing), False)

    def test_equal_calls_give_equal_answers_and_change_nothing(self):
        for call, right, _ in self.calls():
            self.assertEqual(call(*right), call(*right))
        web = next(right[0] for call, right, _ in self.calls() if call.__name__ == "reading")
        self.assertEqual(web, Web(5, 2, (((1, 0), 10), ((0, 1), 10), ((1, 4), 3))))


if __name__ == "__main__":
    unittest.main()
