"""Points 6.1, 6.2 and 7.1: the least room, bars, plans that need no more."""

import unittest
from random import Random

from lightfirst.errors import NoKeeping, NoNumber, NoSome, NoStay
from lightfirst.plans import end_of, is_plan, moments, room_of
from lightfirst.room import (bar, bar_by, is_bar, is_bar_by, least_of, least_room, least_room_by, least_staying,
                             plan_by, plan_for, plan_within, pressures)
from lightfirst.webs import Web
from tests import oracle

W = Web(3, 2, (((1, 0), 10), ((0, 1), 10), ((2, 1), 3)))
V = Web(3, 3, (((1, 0, 0), 10), ((0, 1, 0), 10), ((2, 1, 0), 3), ((0, 0, 1), 4), ((1, 0, 2), 2), ((0, 1, 2), 2)))
LEAN = Web(2, 3, (((1, 0, 0), 4), ((0, 1, 0), 5), ((0, 0, 1), 6)))
WEBS = oracle.random_webs(61, 21) + [W]
GREATEST = 10 ** 9


def all_of(web):
    """All pieces of a web."""
    return tuple(range(len(web.pieces)))


def top_of(web, lot, other):
    """The greatest size of the pieces of the other that are not of the lot."""
    return max([web.pieces[k][1] for k in other if k not in lot], default=0)


def least_by_words(web, lot, bound, some, stay):
    """What least_staying tells, by the very words."""
    pieces = [k for k in some if k in lot or web.pieces[k][1] < bound]
    return oracle.greedy(web, pieces, stay)


def pressures_by_words(web, start, goal, some, stay):
    """The triples (side, size, pressure), and the lots, by the very words."""
    found = []
    for side, lot, other in (("goal", goal, start), ("start", start, goal)):
        for t in sorted({web.pieces[k][1] for k in some}):
            if t <= top_of(web, lot, other):
                kept = least_by_words(web, lot, t, some, stay)
                found.append(((side, t, t + oracle.size(web, kept)), kept))
    return found


def bars_by_words(web, start, goal, some, stay, room):
    """All bars to a room, by the very words."""
    found = [told for told, lot in ((("start",), start), (("goal",), goal)) if oracle.size(web, lot) > room]
    words = {"start": "from", "goal": "back"}
    return found + [(words[side], t, kept) for (side, t, needed), kept
                    in pressures_by_words(web, start, goal, some, stay) if needed > room]


def things_like_bars(web):
    """Things with the form of bars."""
    sizes = sorted({piece[1] for piece in web.pieces} | {0, 4})
    return [("start",), ("goal",), ("from",), ("back",)] + [
        (word, t, lot) for word in ("from", "back", "start") for t in sizes for lot in oracle.lots(web)]


class TheLeastRoom(unittest.TestCase):
    """The great fact: against a search over all keepings, piece by piece."""

    def test_least_room(self):
        for web in WEBS + oracle.random_webs(62, 14):
            for start in oracle.keepings(web):
                rooms = oracle.rooms_from(web, start, all_of(web), ())
                for goal in oracle.keepings(web):
                    self.assertEqual(least_room(web, start, goal), rooms[goal])

    def test_plan_for(self):
        for web in WEBS:
            for start in oracle.keepings(web):
                for goal in oracle.keepings(web):
                    plan = plan_for(web, start, goal)
                    self.assertIs(is_plan(web, start, goal, plan), True)
                    self.assertEqual(room_of(web, start, plan), least_room(web, start, goal))

    def test_led_step_by_step(self):
        for web in WEBS[:7]:
            for start in oracle.keepings(web):
                for goal in oracle.keepings(web):
                    lot, room = start, oracle.size(web, start)
                    for word, k in plan_for(web, start, goal):
                        self.assertIs(k in lot, word == "drop")
                        lot = oracle.toggled(lot, k)
                        room = max(room, oracle.size(web, lot))
                        self.assertTrue(oracle.is_keeping(web, lot))
                    self.assertEqual((lot, room), (goal, least_room(web, start, goal)))

    def test_pressures(self):
        for web in WEBS:
            for start in oracle.keepings(web):
                for goal in oracle.keepings(web):
                    right = [told for told, _ in pressures_by_words(web, start, goal, all_of(web), ())]
                    self.assertEqual(right, sorted(set(right)))
                    self.assertEqual(pressures(web, start, goal), right)
                    needed = [told[2] for told in right] + [oracle.size(web, start), oracle.size(web, goal)]
                    self.assertEqual(least_room(web, start, goal), max(needed))

    def test_least_of(self):
        for web in WEBS:
            for lot in oracle.keepings(web):
                for bound in list(range(11)) + [GREATEST]:
                    self.assertEqual(least_of(web, lot, bound), least_by_words(web, lot, bound, all_of(web), ()))

    def test_bars_and_plans_within(self):
        for web in WEBS[:7] + [W]:
            for number, start in enumerate(oracle.keepings(web)):
                for goal in oracle.keepings(web)[number % 3::3]:
                    least = least_room(web, start, goal)
                    for room in sorted({0, 1, least // 2, least - 1, least, least + 1, GREATEST}):
                        self.check_room(web, start, goal, room, room >= least)

    def check_room(self, web, start, goal, room, enough):
        told = bar(web, start, goal, room)
        plan = plan_within(web, start, goal, room)
        self.assertEqual((told is None, plan is not None), (enough, enough))
        if enough:
            self.assertIs(is_plan(web, start, goal, plan), True)
            self.assertLessEqual(room_of(web, start, plan), room)
        else:
            self.assertIn(told, bars_by_words(web, start, goal, all_of(web), (), room))
            self.assertIs(is_bar(web, start, goal, room, told), True)

    def test_is_bar(self):
        for web in [W] + oracle.random_webs(63, 5):
            things = things_like_bars(web)
            pairs = [(start, goal) for start in oracle.keepings(web) for goal in oracle.keepings(web)]
            for start, goal in pairs[::len(pairs) // 6 + 1]:
                least = least_room(web, start, goal)
                for room in sorted({0, max(0, least - 3), least - 1, least}):
                    right = bars_by_words(web, start, goal, all_of(web), (), room)
                    for thing in things:
                        self.assertIs(is_bar(web, start, goal, room, thing), thing in right)


class ToldPieces(unittest.TestCase):
    """The fact of told pieces: against a search over the keepings of some that hold stay."""

    def cases(self, seed, many_webs, every):
        """Webs with starts, goals, pieces that may be used, pieces that stay: each so many of them."""
        number = 0
        for web in [W] + oracle.random_webs(seed, many_webs):
            for start in oracle.keepings(web):
                for goal in oracle.keepings(web):
                    for some in oracle.lots(web):
                        if not set(start) | set(goal) <= set(some):
                            continue
                        for stay in oracle.subsets(tuple(k for k in start if k in goal)):
                            number += 1
                            if number % every == 0:
                                yield web, start, goal, some, stay

    def test_least_room_by(self):
        rooms = {}
        for web, start, goal, some, stay in self.cases(71, 7, 29):
            at = (web.pieces, start, some, stay)
            if at not in rooms:
                rooms[at] = oracle.rooms_from(web, start, some, stay)
            self.assertEqual(least_room_by(web, start, goal, some, stay), rooms[at][goal])

    def test_plan_by(self):
        for web, start, goal, some, stay in self.cases(72, 7, 29):
            plan = plan_by(web, start, goal, some, stay)
            self.assertIs(is_plan(web, start, goal, plan), True)
            self.assertEqual(room_of(web, start, plan), least_room_by(web, start, goal, some, stay))
            for lot in moments(web, start, plan):
                self.assertTrue(set(stay) <= set(lot) <= set(some))

    def test_bars_by(self):
        for web, start, goal, some, stay in self.cases(73, 7, 97):
            least = least_room_by(web, start, goal, some, stay)
            for room in sorted({0, least - 1, least, GREATEST}):
                told = bar_by(web, start, goal, some, stay, room)
                right = bars_by_words(web, start, goal, some, stay, room)
                self.assertIs(told is None, room >= least)
                self.assertEqual(right == [], room >= least)
                if told is not None:
                    self.assertIn(told, right)
                    self.assertIs(is_bar_by(web, start, goal, some, stay, room, told), True)

    def test_is_bar_by(self):
        for web, start, goal, some, stay in self.cases(74, 3, 499):
            least = least_room_by(web, start, goal, some, stay)
            for room in sorted({0, least - 1, least}):
                right = bars_by_words(web, start, goal, some, stay, room)
                for thing in things_like_bars(web):
                    self.assertIs(is_bar_by(web, start, goal, some, stay, room, thing), thing in right)

    def test_least_staying(self):
        for web in [W] + oracle.random_webs(75, 7):
            for lot in oracle.keepings(web)[::3]:
                for some in oracle.lots(web):
                    if set(lot) <= set(some):
                        for stay in oracle.subsets(lot):
                            for bound in (0, 2, 5, 9):
                                self.assertEqual(least_staying(web, lot, bound, some, stay),
                                                 least_by_words(web, lot, bound, some, stay))

    def test_all_pieces_and_none_staying(self):
        for web in oracle.random_webs(76, 7):
            for start in oracle.keepings(web):
                for goal in oracle.keepings(web)[::3]:
                    self.assertEqual(least_room_by(web, start, goal, all_of(web), ()), least_room(web, start, goal))

    def test_pieces_that_stay_though_made_of_others(self):
        web = Web(2, 2, (((1, 0), 4), ((0, 1), 4), ((1, 1), 9), ((1, 0), 1)))
        self.assertEqual(least_staying(web, (0, 1, 2), 5, (0, 1, 2, 3), (0, 1, 2)), (0, 1, 2))
        self.assertEqual(least_staying(web, (0, 1, 2), 5, (0, 1, 2, 3), (2,)), (2, 3))
        self.assertEqual(least_staying(web, (0, 1, 2), 5, (0, 1, 2), (2,)), (0, 2))
        self.assertEqual(least_room_by(web, (0, 1, 2), (0, 1, 2, 3), (0, 1, 2, 3), (0, 1, 2)), 18)


class Edges(unittest.TestCase):

    def test_bounds_and_rooms(self):
        self.assertEqual([least_of(V, (0, 2, 4), bound) for bound in (0, 2, 3, 10, 11, GREATEST)],
                         [(0, 2, 4), (0, 2, 4), (0, 4, 5), (3, 4, 5), (3, 4, 5), (3, 4, 5)])
        self.assertEqual(least_staying(W, (0, 1), 0, (0, 1, 2), ()), (0, 1))
        self.assertEqual(least_staying(W, (0, 1), GREATEST, (0, 1, 2), (1,)), (1, 2))
        self.assertEqual(bar(W, (0, 2), (1, 2), 0), ("start",))
        self.assertIsNone(bar(W, (0, 2), (1, 2), GREATEST))
        self.assertEqual((plan_within(W, (0, 2), (1, 2), 0), plan_within(W, (0, 2), (1, 2), 22)), (None, None))
        for room in (23, GREATEST):
            self.assertIs(is_plan(W, (0, 2), (1, 2), plan_within(W, (0, 2), (1, 2), room)), True)
        self.assertIsNone(bar_by(W, (0, 2), (1, 2), (0, 1, 2), (2,), GREATEST))
        self.assertIs(is_bar(W, (0, 2), (1, 2), 0, ("goal",)), True)
        self.assertIs(is_bar(W, (0, 2), (1, 2), 13, ("goal",)), False)

    def test_equal_keepings(self):
        for lot in oracle.keepings(V):
            self.assertEqual((least_room(V, lot, lot), pressures(V, lot, lot), plan_for(V, lot, lot)),
                             (oracle.size(V, lot), [], ()))

    def test_one_version(self):
        web = Web(2, 1, (((1,), 5), ((1,), 7), ((1,), 1)))
        self.assertEqual(least_room(web, (0,), (1,)), 8)
        self.assertEqual(pressures(web, (0,), (1,)), [("goal", 1, 8), ("goal", 5, 6), ("start", 1, 6),
                                                      ("start", 5, 6), ("start", 7, 8)])
        self.assertEqual(least_room_by(web, (0,), (1,), (0, 1), ()), 12)
        self.assertEqual(least_room_by(web, (0, 2), (1, 2), (0, 1, 2), ()), 8)
        self.assertEqual(room_of(web, (0,), plan_by(web, (0,), (1,), (0, 1), ())), 12)

    def test_forty_pieces_and_ten_versions(self):
        web = oracle.powers_web(251, 10, 40, lambda a: 10 ** 6 - 1000 * a)
        chance = Random(3)
        for _ in range(20):
            start = tuple(sorted(chance.sample(range(40), chance.randrange(10, 30))))
            goal = tuple(sorted(chance.sample(range(40), chance.randrange(10, 30))))
            plan = plan_for(web, start, goal)
            self.assertIs(is_plan(web, start, goal, plan), True)
            self.assertLessEqual(len(plan), 2000)
            least = least_room(web, start, goal)
            self.assertEqual(room_of(web, start, plan), least)
            self.assertIsNone(bar(web, start, goal, least))
            self.assertIsNone(plan_within(web, start, goal, least - 1))
            self.assertIs(is_bar(web, start, goal, least - 1, bar(web, start, goal, least - 1)), True)
        self.assertEqual(end_of(web, start, plan), goal)

    def test_no_pieces(self):
        for call in (least_room, plan_for, pressures):
            self.assertRaises(NoKeeping, call, Web(2, 1, ()), (), ())


class WrongThings(unittest.TestCase):
    """What is raised, in which order, and what is judged."""

    def test_no_keeping(self):
        every = (0, 1, 2)
        told = ((least_room, ()), (plan_for, ()), (pressures, ()), (plan_within, (9,)), (bar, (9,)),
                (is_bar, (9, ("start",))), (least_room_by, (every, ())), (plan_by, (every, ())),
                (bar_by, (every, (), 9)), (is_bar_by, (every, (), 9, ("start",))))
        for thing in oracle.no_keepings():
            for call, more in told:
                self.assertRaises(NoKeeping, call, LEAN, thing, None, *[None] * len(more))
                self.assertRaises(NoKeeping, call, LEAN, every, thing, *[None] * len(more))
                self.assertRaises(NoKeeping, call, LEAN, thing, every, *more)
                self.assertRaises(NoKeeping, call, LEAN, every, thing, *more)
            self.assertRaises(NoKeeping, least_of, LEAN, thing, None)
            self.assertRaises(NoKeeping, least_of, LEAN, thing, 5)
            self.assertRaises(NoKeeping, least_staying, LEAN, thing, None, None, None)
            self.assertRaises(NoKeeping, least_staying, LEAN, thing, 5, every, ())

    def test_no_number(self):
        every = (0, 1, 2)
        for thing in oracle.many_things() + [GREATEST + 1, 10 ** 60 - 1]:
            self.assertRaises(NoNumber, least_of, W, (0, 1), thing)
            self.assertRaises(NoNumber, least_staying, W, (0, 1), thing, None, None)
            for call in (plan_within, bar):
                self.assertRaises(NoNumber, call, W, (0, 2), (1, 2), thing)
            self.assertRaises(NoNumber, is_bar, W, (0, 2), (1, 2), thing, None)
            self.assertRaises(NoNumber, bar_by, W, (0, 2), (1, 2), every, (2,), thing)
            self.assertRaises(NoNumber, is_bar_by, W, (0, 2), (1, 2), every, (2,), thing, None)

    def test_no_some(self):
        for thing in oracle.junk() + [0, (0, 1), (1, 2), (2, 1, 0), [0, 1, 2], (0, 1, 2, 3), (False, 1, 2)]:
            self.assertRaises(NoSome, least_staying, W, (0, 2), 5, thing, None)
            self.assertRaises(NoSome, least_staying, W, (0, 2), 5, thing, ())
            for call, more in ((least_room_by, ()), (plan_by, ()), (bar_by, (None,)), (is_bar_by, (None, None))):
                self.assertRaises(NoSome, call, W, (0, 2), (1, 2), thing, None, *more)
                self.assertRaises(NoSome, call, W, (0, 2), (1, 2), thing, (), *more)
        self.assertEqual(least_staying(W, (0, 2), 5, (0, 2), ()), (0, 2))

    def test_no_stay(self):
        for thing in [x for x in oracle.junk() if x != ()] + [0, (0,), (1,), (1, 2), (0, 2), [2], (3,), (2, 2)]:
            for call, more in ((least_room_by, ()), (plan_by, ()), (bar_by, (None,)), (is_bar_by, (None, None))):
                self.assertRaises(NoStay, call, W, (0, 2), (1, 2), (0, 1, 2), thing, *more)
        for thing in [x for x in oracle.junk() if x != ()] + [0, (1,), (1, 2), [2], (3,), (2, 2)]:
            self.assertRaises(NoStay, least_staying, W, (0, 2), 5, (0, 1, 2), thing)
        self.assertEqual(least_staying(W, (0, 2), 5, (0, 1, 2), (0, 2)), (0, 2))

    def test_is_bar_judges_anything(self):
        right = ("from", 10, (0, 2))
        wrong = oracle.junk() + [0, "start", ["start"], ("Start",), (b"start",), ("start", 10, (0, 2)), ("from",),
                                 ("from", 10), ["from", 10, (0, 2)], ("from", 10, [0, 2]), ("from", 10, (2, 0)),
                                 ("from", 10, (False, 2)), ("from", "10", (0, 2)), ("from", 3, (0, 2)),
                                 ("from", 10, (0, 1)), ("from", 10, (0, 2), 0), ("from", None, (0, 2)),
                                 (("from",), 10, (0, 2)), ("from", (10,), (0, 2)), ("from", 10, None),
                                 ("from", 10, ((0,), 2)), ("start",), ("goal",)]
        for thing in wrong:
            self.assertIs(is_bar(W, (0, 2), (1, 2), 22, thing), False)
            self.assertIs(is_bar_by(W, (0, 2), (1, 2), (0, 1, 2), (2,), 22, thing), False)
        for room, told in ((22, True), (23, False)):
            self.assertIs(is_bar(W, (0, 2), (1, 2), room, right), told)
            self.assertIs(is_bar_by(W, (0, 2), (1, 2), (0, 1, 2), (2,), room, right), told)

    def test_flags_are_no_sizes(self):
        web = Web(2, 1, (((1,), 1), ((1,), 1)))
        self.assertIs(is_bar(web, (0,), (1,), 1, ("from", 1, (0,))), True)
        self.assertIs(is_bar(web, (0,), (1,), 1, ("from", True, (0,))), False)
        self.assertIs(is_bar(web, (0,), (1,), 1, ("back", 1, (1,))), True)
        self.assertIs(is_bar(web, (0,), (1,), 1, ("back", 1, (True,))), False)

    def test_results_are_new_and_of_their_kinds(self):
        told = pressures(W, (0, 2), (1, 2))
        told.append(None)
        self.assertEqual(len(pressures(W, (0, 2), (1, 2))), 4)
        self.assertEqual([type(x) for x in (
            told, told[0], least_room(W, (0, 2), (1, 2)), plan_for(W, (0, 2), (1, 2)), bar(W, (0, 2), (1, 2), 22),
            least_of(W, (0, 2), 5), least_staying(W, (0, 2), 5, (0, 1, 2), (2,)))],
            [list, tuple, int, tuple, tuple, tuple, tuple])


class Examples(unittest.TestCase):

    def test_e05(self):
        w = W
        self.assertEqual((least_room(w, (0, 2), (1, 2)), pressures(w, (0, 2), (1, 2))[1],
                          is_bar(w, (0, 2), (1, 2), 22, ("from", 10, (0, 2)))), (23, ('goal', 10, 23), True))

    def test_e06_what_is_built(self):
        v = V
        self.assertEqual((least_room(v, (0, 2, 4), (1, 2, 5)), least_of(v, (0, 2, 4), 10)), (18, (3, 4, 5)))


if __name__ == "__main__":
    unittest.main()
