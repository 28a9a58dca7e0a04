"""Points 5.1 and 5.2: plans, their moments, steps that can be left out."""

import unittest
from itertools import product
from random import Random

from lightfirst.errors import BadPlan, NoKeeping, NoPlan, Undone
from lightfirst.plans import end_of, harm, idle_pairs, is_plan, leaned, moments, room_of, turned_back
from lightfirst.webs import Web
from tests import oracle

W = Web(3, 2, (((1, 0), 10), ((0, 1), 10), ((2, 1), 3)))
LEAN = Web(2, 3, (((1, 0, 0), 4), ((0, 1, 0), 5), ((0, 0, 1), 6)))
TAKE_A_PLAN = (moments, harm, room_of, end_of, idle_pairs, leaned)
NEED_IT_DONE = (moments, room_of, end_of, idle_pairs, leaned)


def steps_of(web):
    """All steps of a web."""
    return [(word, k) for word in ("write", "drop") for k in range(len(web.pieces))]


def led(start, plan):
    """The moments by the very words, and the number of the first step that can't be done, or None."""
    found = [start]
    for number, (word, k) in enumerate(plan):
        if (word == "write") == (k in found[-1]):
            return found, number
        found.append(oracle.toggled(found[-1], k))
    return found, None


def harm_by_words(web, start, plan):
    """What harm tells, by the very words."""
    found, wrong = led(start, plan)
    for number, lot in enumerate(found[1:]):
        told = oracle.told(web, lot)
        if len(told) < web.many:
            return (number, [v for v in range(web.many) if v not in told][0])
    return None if wrong is None else (wrong, None)


def without(plan, pair):
    """The plan without two steps."""
    return tuple(step for number, step in enumerate(plan) if number not in pair)


def idle_by_words(web, start, plan):
    """What idle_pairs tells, by the very words."""
    found = []
    for i in range(len(plan)):
        for j in range(i + 1, len(plan)):
            between = [k for _, k in plan[i + 1:j]]
            if plan[i][1] == plan[j][1] and plan[i][1] not in between and can_do_without(web, start, plan, (i, j)):
                found.append((i, j))
    return tuple(found)


def can_do_without(web, start, plan, pair):
    """Whether the plan without a pair can be done, ends as it does, holds if it holds, has no greater room."""
    before, _ = led(start, plan)
    after, wrong = led(start, without(plan, pair))
    if wrong is not None or after[-1] != before[-1]:
        return False
    if max(oracle.size(web, lot) for lot in after) > max(oracle.size(web, lot) for lot in before):
        return False
    return not all(oracle.is_keeping(web, lot) for lot in before) or all(oracle.is_keeping(web, lot) for lot in after)


def random_plan(chance, web, start, many, least):
    """A plan that can be done, with moments of at least so many pieces."""
    plan, lot = [], start
    while len(plan) < many:
        k = chance.randrange(len(web.pieces))
        if k in lot and len(lot) <= least:
            continue
        plan.append(("drop" if k in lot else "write", k))
        lot = oracle.toggled(lot, k)
    return tuple(plan)


class SmallPlans(unittest.TestCase):
    """All short plans of small webs, against the very words."""

    def all_plans(self):
        webs = [(W, 4)] + [(web, 3) for web in oracle.random_webs(51, 4)[:3]]
        for web, most in webs:
            for start in oracle.keepings(web):
                for many in range(most + 1):
                    for plan in product(steps_of(web), repeat=many):
                        yield web, start, plan

    def test_moments_harm_room_and_end(self):
        for web, start, plan in self.all_plans():
            right, wrong = led(start, plan)
            self.assertEqual(harm(web, start, plan), harm_by_words(web, start, plan))
            if wrong is None:
                self.assertEqual(moments(web, start, plan), right)
                self.assertEqual(room_of(web, start, plan), max(oracle.size(web, lot) for lot in right))
                self.assertEqual(end_of(web, start, plan), right[-1])
                continue
            with self.assertRaises(Undone) as caught:
                moments(web, start, plan)
            self.assertEqual(caught.exception.number, wrong)

    def test_is_plan(self):
        for start in oracle.keepings(W):
            for plan in [plan for many in range(4) for plan in product(steps_of(W), repeat=many)]:
                right, wrong = led(start, plan)
                holds = wrong is None and all(oracle.is_keeping(W, lot) for lot in right)
                for goal in oracle.keepings(W):
                    self.assertIs(is_plan(W, start, goal, plan), holds and right[-1] == goal)

    def test_step_of_back(self):
        for web, start, plan in self.all_plans():
            back = turned_back(plan)
            self.assertEqual(back, tuple(({"write": "drop", "drop": "write"}[w], k) for w, k in plan[::-1]))
            right, wrong = led(start, plan)
            if wrong is None and oracle.is_keeping(web, right[-1]):
                self.assertEqual(moments(web, right[-1], back), right[::-1])
                self.assertEqual(room_of(web, right[-1], back), room_of(web, start, plan))
                self.assertIs(harm(web, right[-1], back) is None, harm(web, start, plan) is None)

    def test_idle_pairs_and_leaned(self):
        for web, start, plan in self.all_plans():
            if led(start, plan)[1] is None:
                self.check_leaned(web, start, plan)

    def check_leaned(self, web, start, plan):
        self.assertEqual(idle_pairs(web, start, plan), idle_by_words(web, start, plan))
        right = plan
        while idle_by_words(web, start, right):
            right = without(right, idle_by_words(web, start, right)[0])
        self.assertEqual(leaned(web, start, plan), right)

    def test_longer_plans(self):
        chance = Random(5)
        for web in oracle.random_webs(52, 28):
            every = tuple(range(len(web.pieces)))
            for least in (0, web.many, web.many + 1):
                for start in (every, oracle.greedy(web, every)):
                    self.check_leaned(web, start, random_plan(chance, web, start, chance.randrange(4, 16), least))

    def test_longer_plans_that_hold(self):
        chance = Random(6)
        for web in oracle.random_webs(53, 28):
            plan, lot = [], tuple(range(len(web.pieces)))
            for _ in range(60):
                k = chance.randrange(len(web.pieces))
                if len(plan) < 14 and oracle.is_keeping(web, oracle.toggled(lot, k)):
                    plan.append(("drop" if k in lot else "write", k))
                    lot = oracle.toggled(lot, k)
            plan = tuple(plan)
            self.assertIs(is_plan(web, tuple(range(len(web.pieces))), lot, plan), True)
            self.check_leaned(web, tuple(range(len(web.pieces))), plan)


class Edges(unittest.TestCase):

    def test_no_steps(self):
        for start in oracle.keepings(W):
            self.assertEqual((moments(W, start, ()), harm(W, start, ()), room_of(W, start, ()), end_of(W, start, ()),
                              idle_pairs(W, start, ()), leaned(W, start, ())),
                             ([start], None, oracle.size(W, start), start, (), ()))
            self.assertIs(is_plan(W, start, start, ()), True)
        self.assertIs(is_plan(W, (0, 1), (0, 2), ()), False)
        self.assertEqual(turned_back(()), ())

    def test_two_thousand_steps(self):
        plan = (("write", 1), ("drop", 1)) * 1000
        self.assertEqual(len(moments(W, (0, 2), plan)), 2001)
        self.assertEqual((harm(W, (0, 2), plan), room_of(W, (0, 2), plan), end_of(W, (0, 2), plan)),
                         (None, 23, (0, 2)))
        self.assertEqual(idle_pairs(W, (0, 2), plan), tuple((k, k + 1) for k in range(1999)))
        self.assertEqual(leaned(W, (0, 2), plan), ())
        self.assertEqual(turned_back(plan), plan)
        self.assertIs(is_plan(W, (0, 2), (0, 2), plan), True)
        wrong = plan[:-1] + (("drop", 0),)
        self.assertEqual((harm(W, (0, 2), plan[:-1] + (("write", 1),)), harm(W, (0, 2), wrong)),
                         ((1999, None), None))
        self.assertEqual(harm(W, (0, 2), plan[:-2] + (("drop", 2),)), (1998, 1))
        self.assertEqual(end_of(W, (0, 2), wrong), (1, 2))

    def test_more_steps(self):
        plan = (("write", 1), ("drop", 1)) * 1000 + (("write", 1),)
        for call in TAKE_A_PLAN:
            self.check_no_plan(call, plan, -1)
            self.check_no_plan(call, (None,) * 2001, -1)
        self.assertRaises(BadPlan, turned_back, plan)
        self.assertIs(is_plan(W, (0, 2), (0, 1, 2), plan), False)
        self.assertIs(is_plan(W, (0, 2), (0, 1, 2), plan[2:]), True)

    def check_no_plan(self, call, plan, number):
        with self.assertRaises(NoPlan) as caught:
            call(W, (0, 2), plan)
        self.assertEqual(caught.exception.number, number)

    def test_forty_pieces_and_ten_versions(self):
        web = oracle.powers_web(251, 10, 40, lambda a: 1 + a)
        every = tuple(range(40))
        plan = tuple(("drop", k) for k in range(30))
        self.assertIs(is_plan(web, every, tuple(range(30, 40)), plan), True)
        self.assertEqual(harm(web, every, plan + (("drop", 39),)), (30, 0))
        self.assertEqual((room_of(web, every, plan), room_of(web, tuple(range(30, 40)), turned_back(plan))),
                         (820, 820))
        self.assertEqual(leaned(web, every, plan + turned_back(plan)), ())
        self.assertEqual(idle_pairs(web, every, plan + turned_back(plan)), tuple((k, 59 - k) for k in range(30)))

    def test_one_version(self):
        web = Web(2, 1, (((1,), 5), ((1,), 7)))
        plan = (("write", 1), ("drop", 0), ("write", 0), ("drop", 1))
        self.assertEqual((harm(web, (0,), plan), room_of(web, (0,), plan)), (None, 12))
        self.assertEqual(idle_pairs(web, (0,), plan), ((1, 2),))
        self.assertEqual(leaned(web, (0,), plan), ())
        self.assertEqual(harm(web, (0,), (("drop", 0), ("drop", 0))), (0, 0))

    def test_a_pair_out_of_a_plan_that_does_harm(self):
        web = Web(2, 1, (((1,), 5), ((1,), 7)))
        # It does not hold anyhow, so the write of 1 is idle though version 0 is told by it for a moment.
        plan = (("write", 1), ("drop", 0), ("drop", 1), ("write", 0))
        self.assertEqual(idle_pairs(web, (0,), plan), ((0, 2), (1, 3)))
        self.assertEqual(leaned(web, (0,), plan), ())

    def test_greatest_piece_turned_back(self):
        self.assertEqual(turned_back((("write", 39), ("drop", 0))), (("write", 0), ("drop", 39)))
        self.assertRaises(BadPlan, turned_back, (("write", 40),))


class WrongThings(unittest.TestCase):
    """What is raised, in which order, and what is judged."""

    def wrong_steps(self, many):
        return oracle.junk() + [0, ("write",), ("write", 0, 0), ("read", 0), ["write", 0], ("Write", 0),
                                ("write", True), ("drop", False), ("write", "0"), (0, "write"), ("write", many),
                                ("drop", -1), (b"write", 0), (("write",), 0), ("write", (0,)), ("write", None),
                                ("drop", 10 ** 60 - 1), ("", 0)]

    def test_no_keeping(self):
        for thing in oracle.no_keepings():
            for call in TAKE_A_PLAN:
                self.assertRaises(NoKeeping, call, LEAN, thing, None)
                self.assertRaises(NoKeeping, call, LEAN, thing, ())
            self.assertRaises(NoKeeping, is_plan, LEAN, thing, None, None)
            self.assertRaises(NoKeeping, is_plan, LEAN, thing, (0, 1, 2), ())
            self.assertRaises(NoKeeping, is_plan, LEAN, (0, 1, 2), thing, ())

    def test_no_plan(self):
        for call in TAKE_A_PLAN:
            for thing in [x for x in oracle.junk() if not isinstance(x, tuple)] + [0, [("write", 1)]]:
                self.check_no_plan(call, thing, -1)
            for step in self.wrong_steps(3):
                self.check_no_plan(call, (step,), 0)
                # It is looked at ahead of what can't be done.
                self.check_no_plan(call, (("drop", 0), ("drop", 0), step, step), 2)

    def check_no_plan(self, call, plan, number):
        with self.assertRaises(NoPlan) as caught:
            call(W, (0, 2), plan)
        self.assertEqual(caught.exception.number, number)

    def test_undone(self):
        for plan, number in (((("write", 0),), 0), ((("drop", 1),), 0), ((("write", 1), ("write", 1)), 1),
                             ((("drop", 0), ("drop", 2), ("drop", 0)), 2)):
            for call in NEED_IT_DONE:
                with self.assertRaises(Undone) as caught:
                    call(W, (0, 2), plan)
                self.assertEqual(caught.exception.number, number)

    def test_bad_plan(self):
        for thing in [x for x in oracle.junk() if x != ()] + [0, [("write", 1)], (("write", 1), None)]:
            self.assertRaises(BadPlan, turned_back, thing)
        for step in self.wrong_steps(40):
            self.assertRaises(BadPlan, turned_back, (step,))
            self.assertRaises(BadPlan, turned_back, (("write", 0), step))

    def test_is_plan_judges_anything(self):
        for thing in oracle.junk() + [0, [("write", 1)], (("write", 1), None)]:
            self.assertIs(is_plan(W, (0, 2), (0, 1, 2), thing), False)
        for step in self.wrong_steps(3):
            self.assertIs(is_plan(W, (0, 2), (0, 1, 2), (("write", 1), step)), False)
        self.assertIs(is_plan(W, (0, 2), (0, 1, 2), (("write", 1),)), True)

    def test_results_are_new_and_of_their_kinds(self):
        plan = (("write", 1), ("drop", 1))
        told = moments(W, (0, 2), plan)
        told.append(None)
        self.assertEqual(moments(W, (0, 2), plan), [(0, 2), (0, 1, 2), (0, 2)])
        self.assertEqual([type(call(W, (0, 2), plan)) for call in (moments, room_of, end_of, idle_pairs, leaned)],
                         [list, int, tuple, tuple, tuple])
        self.assertEqual([type(x) for x in (harm(W, (0, 2), (("drop", 2),)), turned_back(plan), turned_back(plan)[0],
                                            idle_pairs(W, (0, 2), plan)[0])], [tuple] * 4)


class Examples(unittest.TestCase):

    def test_e07(self):
        w = W
        self.assertEqual((is_plan(w, (0, 2), (1, 2), (("write", 1), ("drop", 0))),
                          room_of(w, (0, 2), (("write", 1), ("drop", 0))), harm(w, (0, 2), (("drop", 2),))),
                         (True, 23, (0, 1)))


if __name__ == "__main__":
    unittest.main()
