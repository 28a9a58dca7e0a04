"""Points 14.1 and 14.2: movers."""

import unittest
from random import Random

from lightfirst.errors import KeepError, NoKeeping, NoNumber, NoSaying
from lightfirst.plans import is_plan, room_of
from lightfirst.room import least_room
from lightfirst.strangers import least_needed, led, mover_for
from lightfirst.webs import Web
from tests import oracle

W = Web(3, 2, (((1, 0), 10), ((0, 1), 10), ((2, 1), 3)))
LEAN = Web(2, 3, (((1, 0, 0), 4), ((0, 1, 0), 5), ((0, 0, 1), 6)))
WEBS = oracle.random_webs(141, 14)
GREATEST = 10 ** 9


def teller(steps):
    """A mover that tells these things, one behind another, and None behind them."""
    return lambda view: steps[view[3]] if view[3] < len(steps) else None


def led_by_words(web, start, goal, room, most, steps):
    """What led tells of a mover that tells these steps, by the very words."""
    if oracle.size(web, start) > room:
        return ("room", -1)
    lot = start
    for number in range(most):
        if number >= len(steps):
            return ("kept", tuple(steps)) if lot == goal else ("early", lot)
        word, piece = steps[number]
        if (word == "drop") != (piece in lot):
            return ("wrong", number)
        lot = oracle.toggled(lot, piece)
        if oracle.size(web, lot) > room:
            return ("room", number)
        missing = [v for v in range(web.many) if v not in oracle.told(web, lot)]
        if missing:
            return ("harm", number, missing[0])
    return ("late", lot)


class Led(unittest.TestCase):

    def test_all_short_walks(self):
        chance = Random(142)
        ends = {}
        for web in WEBS[:7] + [W]:
            steps = [(word, k) for word in ("write", "drop") for k in range(len(web.pieces))]
            for start in oracle.keepings(web)[::5]:
                for many in range(7):
                    for _ in range(25):
                        walk = [chance.choice(steps) for _ in range(many)]
                        self.check(web, start, self.tidied(start, walk), chance, ends)
        for word in ("room", "wrong", "harm", "early", "late", "kept"):
            self.assertGreater(ends[word], 20)

    def tidied(self, start, walk):
        """A walk, of which most steps can be done."""
        lot, found = start, []
        for at, (word, piece) in enumerate(walk):
            if at % 5 != 4:
                word = "drop" if piece in lot else "write"
            found.append((word, piece))
            lot = oracle.toggled(lot, piece)
        return found

    def check(self, web, start, walk, chance, ends):
        end = start
        for _, piece in walk:
            end = oracle.toggled(end, piece)
        goal = end if oracle.is_keeping(web, end) and chance.randrange(3) else chance.choice(oracle.keepings(web))
        for room in (0, oracle.size(web, start) - 1, oracle.size(web, start), oracle.size(web, start) + 4, GREATEST):
            for most in (1, len(walk) + 1, max(1, chance.randrange(9)), 400):
                right = led_by_words(web, start, goal, room, most, walk)
                self.assertEqual(led(web, start, goal, room, most, teller(walk)), right)
                ends[right[0]] = ends.get(right[0], 0) + 1

    def test_views(self):
        seen = []
        steps = (("write", 1), ("drop", 0))

        def mover(view):
            seen.append(view)
            return teller(steps)(view)

        self.assertEqual(led(W, (0, 2), (1, 2), 23, 3, mover), ("kept", steps))
        sizes = (10, 10, 3)
        self.assertEqual(seen, [(sizes, (0, 2), (1, 2), 0), (sizes, (0, 1, 2), (1, 2), 1), (sizes, (1, 2), (1, 2), 2)])
        self.assertEqual({type(view) for view in seen} | {type(view[0]) for view in seen}, {tuple})
        seen.clear()
        self.assertEqual((led(W, (0, 2), (1, 2), 12, 3, mover), seen), (("room", -1), []))
        self.assertEqual((led(W, (0, 2), (1, 2), 23, 2, mover), len(seen)), (("late", (1, 2)), 2))
        seen.clear()
        self.assertEqual((led(W, (0, 2), (1, 2), 22, 2, mover), len(seen)), (("room", 0), 1))

    def test_movers_that_end_at_once(self):
        for most in (1, 2, 400):
            self.assertEqual(led(W, (0, 2), (0, 2), 13, most, teller(())), ("kept", ()))
            self.assertEqual(led(W, (0, 2), (1, 2), 13, most, teller(())), ("early", (0, 2)))
            self.assertEqual(led(W, (0, 2), (0, 2), 12, most, teller(())), ("room", -1))

    def test_movers_that_never_end(self):
        asked = []

        def mover(view):
            asked.append(view[3])
            return ("drop" if 1 in view[1] else "write", 1)

        for most in (1, 2, 3, 399, 400):
            asked.clear()
            lot = (0, 1, 2) if most % 2 == 1 else (0, 2)
            self.assertEqual(led(W, (0, 2), (0, 2), 23, most, mover), ("late", lot))
            self.assertEqual(asked, list(range(most)))
        self.assertIsNone(least_needed(W, (0, 2), (0, 2), mover, 400))

    def test_what_is_no_step(self):
        things = oracle.junk() + [0, (), ("write",), ("write", 3), ("write", -1), ("drop", True), ("write", True),
                                  ("write", 1, 1), ["write", 1], "write 1", ("Write", 1), ("write", "1"), (1, "write"),
                                  ("write", None), (("write", 1),), (b"write", 1), ("write", (1,))]
        for thing in things:
            if thing is None:
                continue
            for number, steps in enumerate(((), (("write", 1),))):
                found = led(W, (0, 2), (0, 2), GREATEST, 400, teller(steps + (thing, None)))
                self.assertEqual(found, ("wrong", number))
                self.assertIsNone(least_needed(W, (0, 2), (0, 2), teller(steps + (thing, None)), 400))

    def test_steps_that_can_not_be_done(self):
        for step in (("write", 0), ("write", 2), ("drop", 1)):
            self.assertEqual(led(W, (0, 2), (0, 2), GREATEST, 400, teller((step,))), ("wrong", 0))

    def test_one_step_in_this_order(self):
        # A step that can't be done is told ahead of a room that it would break, or of the harm that it would do.
        self.assertEqual(led(W, (0, 2), (0, 2), 13, 400, teller((("write", 2),))), ("wrong", 0))
        self.assertEqual(led(W, (0, 2), (0, 2), 22, 400, teller((("write", 1),))), ("room", 0))
        self.assertEqual(led(W, (0, 2), (0, 2), 13, 400, teller((("drop", 2),))), ("harm", 0, 1))
        self.assertEqual(led(W, (0, 2), (0, 2), 13, 400, teller((("drop", 0),))), ("harm", 0, 0))
        self.assertEqual(led(W, (0, 2), (0, 2), 13, 1, teller((("drop", 0),))), ("harm", 0, 0))

    def test_errors_of_the_mover_go_on(self):
        def mover(view):
            if view[3] == 1:
                raise error
            return ("write", 1)

        for error in (KeyError(3), NoSaying(), ZeroDivisionError(), RuntimeError("x"), KeyboardInterrupt()):
            for call, told in ((led, (W, (0, 2), (0, 2), 23, 2, mover)), (least_needed, (W, (0, 2), (0, 2), mover, 2))):
                with self.assertRaises(error.__class__) as caught:
                    call(*told)
                self.assertIs(caught.exception, error)
        self.assertEqual(led(W, (0, 2), (0, 2), 22, 2, mover), ("room", 0))
        self.assertEqual(led(W, (0, 2), (0, 2), 23, 1, mover), ("late", (0, 1, 2)))


class MoversFor(unittest.TestCase):
    """The fact of movers."""

    def test_kept_in_just_the_least_room(self):
        for web in WEBS + [W]:
            for start in oracle.keepings(web)[::2]:
                rooms = oracle.rooms_from(web, start, tuple(range(len(web.pieces))), ())
                for goal in oracle.keepings(web)[::3]:
                    mover = mover_for(web, start, goal)
                    word, plan = led(web, start, goal, rooms[goal], 400, mover)
                    self.assertEqual((word, is_plan(web, start, goal, plan)), ("kept", True))
                    self.assertEqual(led(web, start, goal, rooms[goal] - 1, 400, mover)[0], "room")
                    self.assertEqual(least_needed(web, start, goal, mover, 400), rooms[goal])
                    sizes = tuple(size for _, size in web.pieces)
                    for number in (len(plan), len(plan) + 1, 399, 400, 10 ** 20):
                        self.assertIsNone(mover((sizes, goal, goal, number)))

    def test_the_greatest_web(self):
        web = oracle.powers_web(251, 10, 40, lambda a: 10 ** 6 - 1000 * a)
        for start, goal in (((0,) + tuple(range(20, 40)), tuple(range(1, 40))), (tuple(range(40)), tuple(range(10))),
                            (tuple(range(10)), tuple(range(40)))):
            mover = mover_for(web, start, goal)
            least = least_room(web, start, goal)
            self.assertEqual(led(web, start, goal, least, 400, mover)[0], "kept")
            self.assertEqual(least_needed(web, start, goal, mover, 400), least)

    def test_least_needed(self):
        chance = Random(143)
        found = 0
        for web in WEBS[:7] + [W]:
            for _ in range(120):
                start = chance.choice(oracle.keepings(web))
                walk = Led().tidied(start, [("write", chance.randrange(len(web.pieces))) for _ in range(4)])
                lot = start
                for _, piece in walk:
                    lot = oracle.toggled(lot, piece)
                if not oracle.is_keeping(web, lot):
                    continue
                for most in (1, len(walk), len(walk) + 1, 400):
                    fitting = [room for room in range(60)
                               if led_by_words(web, start, lot, room, most, walk)[0] == "kept"]
                    right = fitting[0] if fitting else None
                    self.assertEqual(least_needed(web, start, lot, teller(walk), most), right)
                    if right is not None:
                        found += 1
                        self.assertGreaterEqual(right, least_room(web, start, lot))
                        self.assertEqual(right, room_of(web, start, tuple(walk)))
        self.assertGreater(found, 50)

    def test_most_of_one(self):
        self.assertEqual(least_needed(W, (0, 2), (0, 2), teller(()), 1), 13)
        self.assertIsNone(least_needed(W, (0, 2), (1, 2), teller(()), 1))
        self.assertIsNone(least_needed(W, (0, 2), (1, 2), mover_for(W, (0, 2), (1, 2)), 1))


class WrongThings(unittest.TestCase):
    """What is raised, in which order."""

    def test_no_keeping(self):
        every = (0, 1, 2)
        for thing in oracle.no_keepings():
            self.assertRaises(NoKeeping, led, LEAN, thing, None, None, None, None)
            self.assertRaises(NoKeeping, led, LEAN, every, thing, None, None, None)
            self.assertRaises(NoKeeping, led, LEAN, every, thing, 15, 1, teller(()))
            self.assertRaises(NoKeeping, mover_for, LEAN, thing, None)
            self.assertRaises(NoKeeping, mover_for, LEAN, every, thing)
            self.assertRaises(NoKeeping, least_needed, LEAN, thing, None, None, None)
            self.assertRaises(NoKeeping, least_needed, LEAN, every, thing, teller(()), None)

    def test_no_number(self):
        asked = []
        for thing in oracle.many_things() + [10 ** 60 - 1]:
            self.assertRaises(NoNumber, led, W, (0, 2), (0, 2), thing, None, asked.append)
            self.assertRaises(NoNumber, led, W, (0, 2), (0, 2), thing, 1, asked.append)
            self.assertRaises(NoNumber, led, W, (0, 2), (0, 2), 0, thing, asked.append)
            self.assertRaises(NoNumber, least_needed, W, (0, 2), (0, 2), asked.append, thing)
        for room, most in ((GREATEST + 1, 1), (13, 0), (13, 401), (0, 0)):
            self.assertRaises(NoNumber, led, W, (0, 2), (0, 2), room, most, asked.append)
        for most in (0, 401):
            self.assertRaises(NoNumber, least_needed, W, (0, 2), (0, 2), asked.append, most)
        self.assertEqual(asked, [])

    def test_kinds_of_what_is_returned(self):
        mover = mover_for(W, (0, 2), (1, 2))
        self.assertTrue(callable(mover))
        self.assertIs(type(least_needed(W, (0, 2), (1, 2), mover, 400)), int)
        found = led(W, (0, 2), (1, 2), 23, 400, mover)
        self.assertEqual([type(found), type(found[1]), type(found[1][0])], [tuple] * 3)
        self.assertTrue(issubclass(NoNumber, KeepError))


if __name__ == "__main__":
    unittest.main()
