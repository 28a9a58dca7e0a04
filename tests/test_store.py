"""Points 11.1 and 11.2: the store, its steps, and falls at every one of them."""

import unittest
from random import Random

from lightfirst.contents import contents, parts, web_of
from lightfirst.disk import Disk
from lightfirst.errors import NoKeeping, NoNumber, NoRoom, NoVersion, Spoilt, Stopped, Unread
from lightfirst.laid import half, laid, meaning, whole
from lightfirst.plans import moments
from lightfirst.room import least_room, plan_for
from lightfirst.store import Store
from lightfirst.webs import Web
from tests import oracle

R = ((1, 2), (1, 3))
W = web_of(5, R, ((1, 0), (0, 1), (4, 1)))
# Each with its rows: a small one, one with contents of one part, one of three versions, one with equal pieces.
WORLDS = [(W, R)] + [(web_of(prime, rows, sums), rows) for prime, rows, sums in (
    (2, ((1, 0, 1), (1, 0, 1)), ((1, 0), (0, 1), (1, 1))),
    (3, ((0, 0), (2, 1)), ((1, 0), (0, 1), (1, 1), (2, 0))),
    (2, ((1, 1), (0, 1), (1, 0)), ((1, 0, 0), (1, 1, 0), (0, 1, 1), (0, 0, 1), (1, 1, 1))),
    (5, ((3,),), ((1,), (2,), (1,))))]


def width_of(rows):
    """The width of rows."""
    return len(rows[0])


def every_row(rows):
    """What meaning tells if all is told."""
    return dict(enumerate(rows))


def cells_of(disk):
    """What lies in the cells."""
    return [disk.lying(cell) for cell in range(disk.many_cells())]


def read_of(disk):
    """What was written last into the cells."""
    return [disk.read(cell) for cell in range(disk.many_cells())]


def fallen(disk, reached):
    """A disk as it lies behind a fall, what waited for some cells having reached."""
    other = disk.copy()
    for cell in reached:
        other.write(cell, disk.read(cell))
    other.calm()
    return other


def pairs_of(web):
    """All pairs of keepings of a web."""
    return [(start, goal) for start in oracle.keepings(web) for goal in oracle.keepings(web)]


def turnings(share):
    """Some of the turnings of the webs, as (web, rows, start, goal, cells)."""
    number = 0
    for web, rows in WORLDS:
        for start, goal in pairs_of(web):
            number += 1
            if number % share == 0:
                for spare in (0, 1):
                    yield web, rows, start, goal, least_room(web, start, goal) + spare


def steps_by_words(web, rows, disk, plan):
    """The steps of a plan, by the very words, each with the number of the step of the plan."""
    held = read_of(disk)
    every = contents(web, rows, tuple(range(len(web.pieces))))
    found = []
    for number, (word, piece) in enumerate(plan):
        if word == "write":
            for part, value in enumerate(parts(web, every[piece])):
                cell = held.index(())
                held[cell] = (piece, part, value)
                found.append((number, ("write", cell, held[cell])))
        else:
            for cell in range(len(held)):
                if held[cell] and held[cell][0] == piece:
                    held[cell] = ()
                    found.append((number, ("write", cell, ())))
        found.append((number, ("calm",)))
    return found


class Turnings(unittest.TestCase):
    """All turnings of small webs, in the least room."""

    def test_steps(self):
        for web, rows in WORLDS:
            for start, goal in pairs_of(web):
                for spare in (0, 2):
                    disk = laid(web, rows, start, least_room(web, start, goal) + spare)
                    store = Store(web, width_of(rows), disk)
                    self.check_steps(web, rows, store, disk, plan_for(web, start, goal), goal)

    def check_steps(self, web, rows, store, disk, plan, goal):
        right = steps_by_words(web, rows, disk, plan)
        self.assertEqual((store.left(), store.goal()), (0, None))
        self.assertIsNone(store.turn(goal))
        for at, (_, step) in enumerate(right):
            self.assertEqual((store.left(), store.goal()), (len(right) - at, goal))
            self.assertEqual(store.step(), step)
            self.assertEqual(store.rows(), rows)
            self.assertEqual(store.room(), read_of(disk).count(()))
            self.assertEqual(store.whole(), whole(web, width_of(rows), fallen(disk, list(disk.waiting()))))
        self.assertEqual((store.left(), store.step(), store.goal(), store.whole()), (0, None, goal, goal))
        self.assertEqual((whole(web, width_of(rows), disk), disk.waiting()), (goal, {}))
        self.assertEqual(sorted(thing[0] for thing in cells_of(disk) if thing),
                         sorted(k for k in goal for _ in range(web.pieces[k][1])))

    def test_great_fact_over_disks(self):
        for web, rows in WORLDS:
            for start, goal in pairs_of(web):
                least = least_room(web, start, goal)
                for cells in range(oracle.size(web, start), least):
                    store = Store(web, width_of(rows), laid(web, rows, start, cells))
                    with self.assertRaises(NoRoom) as caught:
                        store.turn(goal)
                    self.assertEqual(caught.exception.least, least)
                    self.assertEqual((store.goal(), store.left(), store.whole()), (None, 0, start))
                store = Store(web, width_of(rows), laid(web, rows, start, least))
                store.turn(goal)
                self.assertIsNone(store.run())
                self.assertEqual((store.whole(), store.rows(), store.left()), (goal, rows, 0))
                self.assertEqual(store.room(), least - oracle.size(web, goal))

    def test_two_thousand_cells(self):
        store = Store(W, 2, laid(W, R, (0, 2), 2000))
        for goal in ((1, 2), (0, 1, 2), (0, 1)):
            store.turn(goal)
            store.run()
            self.assertEqual((store.whole(), store.rows()), (goal, R))
        self.assertEqual(store.room(), 1994)

    def test_widths_one_and_twelve_and_ten_versions(self):
        chance = Random(11)
        for prime, width in ((251, 12), (2, 1), (7, 12)):
            rows = tuple(tuple(chance.randrange(prime) for _ in range(width)) for _ in range(10))
            sums = tuple(oracle.unit(Web(prime, 10, ()), v) for v in range(10))
            sums += tuple(tuple(1 if k in (v, v + 1) else 0 for k in range(10)) for v in range(9))
            web = web_of(prime, rows, sums)
            goal = (0,) + tuple(range(10, 19))
            least = least_room(web, tuple(range(10)), goal)
            store = Store(web, width, laid(web, rows, tuple(range(10)), least))
            store.turn(goal)
            while store.step() is not None:
                self.assertEqual(store.row(9), rows[9])
            self.assertEqual((store.whole(), store.rows()), (goal, rows))


class Falls(unittest.TestCase):
    """A fall behind each step, whatever of what waits has reached."""

    def test_whatever_has_reached(self):
        for web, rows, start, goal, cells in turnings(3):
            disk = laid(web, rows, start, cells)
            store = Store(web, width_of(rows), disk)
            plan = plan_for(web, start, goal)
            stands = moments(web, start, plan)
            right = steps_by_words(web, rows, disk, plan)
            store.turn(goal)
            for number, _ in right:
                store.step()
                self.assertEqual(set(disk.waiting().values()) - {1}, set())
                for reached in oracle.subsets(tuple(disk.waiting())):
                    self.check_fall(web, rows, fallen(disk, reached), goal, stands[number:number + 2])

    def check_fall(self, web, rows, disk, goal, stands):
        width = width_of(rows)
        self.assertEqual(meaning(web, width, disk), every_row(rows))
        self.assertIn(whole(web, width, disk), stands)
        store = Store(web, width, disk)
        self.assertIs(store.disk(), disk)
        self.assertEqual((half(web, width, disk), disk.waiting()), ((), {}))
        self.assertIn(store.whole(), stands)
        self.assertEqual((store.rows(), store.goal(), store.left()), (rows, None, 0))
        # Opened twice is as opened once.
        cells, reached = cells_of(disk), disk.reached()
        store = Store(web, width, disk)
        self.assertEqual((cells_of(disk), disk.reached()), (cells, reached))
        store.turn(goal)
        store.run()
        self.assertEqual((whole(web, width, disk), half(web, width, disk), meaning(web, width, disk)),
                         (goal, (), every_row(rows)))
        self.assertEqual(disk.used(), oracle.size(web, goal))

    def test_in_unlike_orders(self):
        chance = Random(12)
        for web, rows, start, goal, cells in turnings(2):
            disk = laid(web, rows, start, cells)
            store = Store(web, width_of(rows), disk)
            store.turn(goal)
            falls = 0
            while store.left() > 0:
                store.step()
                waiting = list(disk.waiting())
                chance.shuffle(waiting)
                for cell in waiting[:chance.randrange(len(waiting) + 1)]:
                    disk.reach(cell)
                    self.assertEqual(meaning(web, width_of(rows), disk), every_row(rows))
                if falls < 9 and chance.randrange(4) == 0:
                    falls += 1
                    disk.cut()
                    self.assertEqual(meaning(web, width_of(rows), disk), every_row(rows))
                    store = Store(web, width_of(rows), disk)
                    store.turn(goal)
            self.assertEqual((store.whole(), whole(web, width_of(rows), disk), store.rows()), (goal, goal, rows))

    def test_opened_while_something_waits(self):
        for web, rows, start, goal, cells in turnings(13):
            many = len(steps_by_words(web, rows, laid(web, rows, start, cells), plan_for(web, start, goal)))
            for at in range(many + 1):
                disk = laid(web, rows, start, cells)
                store = Store(web, width_of(rows), disk)
                store.turn(goal)
                for _ in range(at):
                    store.step()
                self.assertEqual(store.whole(), whole(web, width_of(rows), fallen(disk, list(disk.waiting()))))
                told = store.whole()
                other = Store(web, width_of(rows), disk)
                self.assertEqual((disk.waiting(), half(web, width_of(rows), disk)), ({}, ()))
                self.assertEqual((other.whole(), whole(web, width_of(rows), disk)), (told, told))


class Power(unittest.TestCase):
    """Power that ends at every write, at openings and in turnings too."""

    def worlds(self):
        return [(web, rows, start, goal) for web, rows in WORLDS for start, goal in pairs_of(web)[1::17]]

    def run_with(self, web, rows, disk, goal, strength):
        """Opens the disk and turns it with so much power; whether it came to the end. Each row is told anyhow."""
        disk.power(strength)
        try:
            store = Store(web, width_of(rows), disk)
            store.turn(goal)
            store.run()
        except Stopped:
            self.assertEqual(meaning(web, width_of(rows), disk), every_row(rows))
            disk.cut()
            self.assertEqual(meaning(web, width_of(rows), disk), every_row(rows))
            return False
        disk.power(None)
        self.assertEqual((whole(web, width_of(rows), disk), half(web, width_of(rows), disk)), (goal, ()))
        return True

    def test_ends_once(self):
        for web, rows, start, goal in self.worlds():
            cells = least_room(web, start, goal)
            for strength in range(200):
                disk = laid(web, rows, start, cells)
                if self.run_with(web, rows, disk, goal, strength):
                    self.assertEqual(disk.reached(), strength)
                    break
                self.assertEqual(disk.reached(), strength)
                self.assertIs(self.run_with(web, rows, disk, goal, None), True)

    def test_ends_again_and_again(self):
        for web, rows, start, goal in self.worlds():
            cells = least_room(web, start, goal)
            for first in range(0, 40, 3):
                for again in range(1, 12):
                    disk = laid(web, rows, start, cells)
                    ended = self.run_with(web, rows, disk, goal, first)
                    for strength in range(again, again + 40):
                        ended = ended or self.run_with(web, rows, disk, goal, strength)
                    self.assertIs(ended, True)

    def test_at_an_opening(self):
        # A half piece of two cells: one is cleared, then the power ends.
        disk = laid(W, R, (0, 2), 8)
        store = Store(W, 2, disk)
        store.turn((0, 1, 2))
        store.step()
        store.step()
        disk.reach(5)
        disk.reach(6)
        disk.power(1)
        self.assertRaises(Stopped, Store, W, 2, disk)
        self.assertEqual(([disk.lying(cell)[:1] for cell in (5, 6)], disk.waiting()), ([(), (1,)], {6: 1}))
        disk.cut()
        self.assertEqual((disk.read(6), half(W, 2, disk)), ((1, 1, 1), (1,)))
        store = Store(W, 2, disk)
        self.assertEqual((disk.used(), store.whole(), store.rows()), (5, (0, 2), R))

    def test_in_turn(self):
        disk = laid(W, R, (0, 2), 8)
        store = Store(W, 2, disk)
        store.turn((0, 1, 2))
        store.step()
        store.step()
        disk.power(3)
        self.assertRaises(Stopped, store.turn, (0, 1))
        # Both writes reached, and one cell was cleared; the goal is the elder one still.
        self.assertEqual((store.goal(), disk.reached(), disk.used()), ((0, 1, 2), 3, 6))
        disk.cut()
        store = Store(W, 2, disk)
        store.turn((0, 1))
        store.run()
        self.assertEqual((store.whole(), store.rows(), store.goal()), ((0, 1), R, (0, 1)))

    def test_only_a_calm_stops(self):
        disk = laid(W, R, (0, 2), 8)
        store = Store(W, 2, disk)
        disk.power(0)
        store.turn((1, 2))
        told = [store.step() for _ in range(3)]
        self.assertEqual([step[0] for step in told], ["write"] * 3)
        self.assertRaises(Stopped, store.step)
        self.assertRaises(Stopped, Store, W, 2, disk)
        disk.cut()
        self.assertEqual(Store(W, 2, disk).whole(), (0, 2))


class Methods(unittest.TestCase):

    def test_a_store_that_was_opened(self):
        disk = laid(W, R, (0, 2), 8)
        store = Store(W, 2, disk)
        self.assertIs(store.disk(), disk)
        self.assertEqual((store.whole(), store.room(), store.left(), store.goal(), store.step(), store.run()),
                         ((0, 2), 3, 0, None, None, None))
        self.assertEqual((store.rows(), store.row(0), store.row(1)), (R, (1, 2), (1, 3)))
        self.assertEqual((disk.waiting(), disk.reached()), ({}, 0))

    def test_what_waits_is_taken_as_reached(self):
        disk = laid(W, R, (0, 2), 8)
        store = Store(W, 2, disk)
        store.turn((0, 1, 2))
        steps = [store.step() for _ in range(3)]
        self.assertEqual(steps, [("write", 5, (1, 0, 2)), ("write", 6, (1, 1, 1)), ("write", 7, (1, 2, 8))])
        self.assertEqual((store.whole(), store.room(), store.left()), ((0, 1, 2), 0, 1))
        self.assertEqual((whole(W, 2, disk), disk.used()), ((0, 2), 5))
        other = Store(W, 2, disk)
        self.assertEqual((other.whole(), whole(W, 2, disk), disk.reached()), ((0, 1, 2), (0, 1, 2), 3))

    def test_another_goal_amid_a_turning(self):
        for at in range(1, 8):
            disk = laid(W, R, (0, 2), 8)
            store = Store(W, 2, disk)
            store.turn((1, 2))
            for _ in range(at):
                store.step()
            told = store.whole()
            store.turn((0, 1, 2))
            self.assertEqual((store.whole(), store.goal(), disk.waiting(), half(W, 2, disk)),
                             (told, (0, 1, 2), {}, ()))
            self.assertEqual(store.left(), len(steps_by_words(W, R, disk, plan_for(W, told, (0, 1, 2)))))
            store.run()
            self.assertEqual((store.whole(), store.rows(), disk.used()), ((0, 1, 2), R, 8))

    def test_turned_to_what_lies_there(self):
        for start in oracle.keepings(W):
            disk = laid(W, R, start, 8)
            store = Store(W, 2, disk)
            store.turn(start)
            self.assertEqual((store.goal(), store.whole()), (start, start))
            store.run()
            self.assertEqual((store.whole(), store.rows(), disk.used()), (start, R, oracle.size(W, start)))

    def test_no_room_changes_nothing(self):
        disk = laid(W, R, (0, 2), 7)
        store = Store(W, 2, disk)
        self.assertRaises(NoRoom, store.turn, (0, 1, 2))
        disk = laid(W, R, (0, 2), 8)
        store = Store(W, 2, disk)
        store.turn((1, 2))
        store.step()
        left, cells, waiting = store.left(), cells_of(disk), disk.waiting()
        self.assertRaises(NoKeeping, store.turn, (0,))
        self.assertEqual((store.left(), store.goal(), cells_of(disk), disk.waiting()), (left, (1, 2), cells, waiting))

    def test_no_room_amid_a_turning_changes_nothing(self):
        rows = ((1, 2, 3), (4, 4, 4))
        web = web_of(5, rows, ((1, 0), (0, 1), (1, 1), (1, 4)))
        disk = laid(web, rows, (0, 1), 11)
        store = Store(web, 3, disk)
        store.turn((0, 3))
        store.step()
        store.step()
        left, waiting = store.left(), disk.waiting()
        with self.assertRaises(NoRoom) as caught:
            store.turn((0, 1, 2, 3))
        self.assertEqual(caught.exception.least, least_room(web, (0, 1), (0, 1, 2, 3)))
        self.assertEqual((store.left(), store.goal(), disk.waiting()), (left, (0, 3), waiting))
        store.run()
        self.assertEqual((store.whole(), store.rows()), ((0, 3), rows))

    def test_equal_to_itself_alone(self):
        disk = laid(W, R, (0, 2), 8)
        store = Store(W, 2, disk)
        self.assertTrue(store == store)
        self.assertFalse(store == Store(W, 2, disk))
        for thing in oracle.junk():
            self.assertFalse(store == thing)

    def test_kinds_of_what_is_returned(self):
        store = Store(W, 2, laid(W, R, (0, 2), 8))
        store.turn((1, 2))
        self.assertEqual([type(x) for x in (store.whole(), store.room(), store.left(), store.row(0), store.rows(),
                                            store.goal(), store.step(), store.disk())],
                         [tuple, int, int, tuple, tuple, tuple, tuple, Disk])


class WrongThings(unittest.TestCase):

    def things_of(self, told):
        """A disk on which these pieces lie with these contents."""
        things = [(k, part, number) for k in told for part, number in enumerate(parts(W, told[k]))]
        disk = Disk(len(things) + 3)
        for cell, thing in enumerate(things):
            disk.write(cell, thing)
        disk.calm()
        return disk

    def test_no_number(self):
        empty = Disk(3)
        for thing in oracle.no_integers() + [-1, 0, 13, 10 ** 59]:
            self.assertRaises(NoNumber, Store, W, thing, empty)

    def test_unread(self):
        for told, other, version in (({}, 0, 0), ({0: (1, 2)}, 1, 1), ({1: (1, 3)}, 2, 0), ({2: (0, 1)}, 0, 0)):
            disk = self.things_of(told)
            # A part of a half piece waits, and another one lies there: nothing of this is reached or cleared.
            disk.write(disk.many_cells() - 1, (other, 1, 1))
            disk.reach(disk.many_cells() - 1)
            disk.write(disk.many_cells() - 2, (other, 2, 1))
            before = (cells_of(disk), read_of(disk), disk.waiting())
            with self.assertRaises(Unread) as caught:
                Store(W, 2, disk)
            self.assertEqual(caught.exception.version, version)
            self.assertEqual((cells_of(disk), read_of(disk), disk.waiting()), before)

    def test_unread_by_what_waits(self):
        disk = laid(W, R, (0, 2), 8)
        disk.write(0, ())
        with self.assertRaises(Unread) as caught:
            Store(W, 2, disk)
        self.assertEqual((caught.exception.version, disk.waiting(), disk.used()), (0, {0: 1}, 5))
        disk.cut()
        self.assertEqual(Store(W, 2, disk).rows(), R)
        disk.write(4, ())
        with self.assertRaises(Unread) as caught:
            Store(W, 2, disk)
        self.assertEqual((caught.exception.version, disk.waiting(), disk.used()), (1, {4: 1}, 5))

    def test_spoilt(self):
        disk = self.things_of({0: (1, 2), 1: (1, 3), 2: (0, 2)})
        disk.write(disk.many_cells() - 1, (5, 0, 0))
        with self.assertRaises(Spoilt) as caught:
            Store(W, 2, disk)
        self.assertEqual((caught.exception.piece, disk.waiting()), (2, {disk.many_cells() - 1: 1}))
        disk = self.things_of({0: (1, 2), 2: (0, 2)})
        self.assertEqual(Store(W, 2, disk).rows(), ((1, 2), (1, 4)))

    def test_spoilt_tells_the_least(self):
        web = Web(2, 1, (((1,), 2),) * 4)
        for values in ((1, 1, 1, 0), (1, 0, 1, 1), (0, 0, 1, 0), (1, 1, 0, 0)):
            things = []
            for k, value in enumerate(values):
                things += [(k, part, number) for part, number in enumerate(parts(web, (value,)))]
            disk = Disk(8)
            for cell, thing in enumerate(things):
                disk.write(cell, thing)
            with self.assertRaises(Spoilt) as caught:
                Store(web, 1, disk)
            self.assertEqual(caught.exception.piece, [k for k in range(4) if values[k] != values[0]][0])

    def test_unread_ahead_of_spoilt(self):
        rows = ((1, 2), (1, 3), (0, 1))
        web = web_of(5, rows, ((1, 0, 0), (0, 1, 0), (0, 0, 1), (1, 0, 0)))
        disk = Disk(12)
        things = [(0, 0, 1), (0, 1, 1), (3, 0, 1), (3, 1, 2), (1, 0, 0)]
        for cell, thing in enumerate(things):
            disk.write(cell, thing)
        with self.assertRaises(Unread) as caught:
            Store(web, 2, disk)
        self.assertEqual(caught.exception.version, 2)
        disk.write(5, (2, 0, 0))
        with self.assertRaises(Spoilt) as caught:
            Store(web, 2, disk)
        self.assertEqual((caught.exception.piece, disk.used()), (3, 0))

    def test_no_version_and_no_keeping(self):
        store = Store(W, 2, laid(W, R, (0, 2), 8))
        for thing in oracle.no_integers() + [-1, 2, 10 ** 59]:
            self.assertRaises(NoVersion, store.row, thing)
        for thing in oracle.junk() + [0, (0,), (1,), (0, 3), (2, 0), [0, 2], (False, 2)]:
            self.assertRaises(NoKeeping, store.turn, thing)
        self.assertEqual((store.goal(), store.left(), store.whole()), (None, 0, (0, 2)))


class Examples(unittest.TestCase):

    def test_e10(self):
        r = ((1, 2), (1, 3))
        w = web_of(5, r, ((1, 0), (0, 1), (4, 1)))
        s = Store(w, 2, laid(w, r, (0, 2), 8))
        s.turn((1, 2))
        s.run()
        self.assertEqual((s.whole(), s.rows(), s.room(), s.left()), ((1, 2), ((1, 2), (1, 3)), 3, 0))


if __name__ == "__main__":
    unittest.main()
