"""The whole program: long lives of stores and houses, in just the room that is needed and in one cell less."""

import unittest
from random import Random

from lightfirst.contents import web_of
from lightfirst.disk import Disk
from lightfirst.errors import NoRoom, Stopped
from lightfirst.floors import floors, is_together
from lightfirst.house import House
from lightfirst.laid import half, laid, meaning, whole
from lightfirst.room import least_room
from lightfirst.store import Store
from lightfirst.strangers import led, mover_for
from lightfirst.texts import plan_text, read_plan, read_web, web_text
from lightfirst.tours import tour_plan, tour_room
from tests import oracle
from tests.hand import Hand
from tests.test_house import SAFE, SAFE_ROWS, every_row
from tests.test_store import WORLDS

GREATEST = 10 ** 6
LONG_ROWS = ((1, 2, 0, 4), (1, 2, 3, 0), (0, 2, 3, 4))
LONG = web_of(5, LONG_ROWS, ((1, 0, 0), (0, 1, 0), (0, 0, 1), (1, 4, 0), (0, 1, 4), (1, 1, 1), (1, 0, 0)))
ALL = WORLDS + [(SAFE, SAFE_ROWS), (LONG, LONG_ROWS)]


def tours(seed, many, stops):
    """Webs with their rows, and tours of unlike keepings through them."""
    chance = Random(seed)
    for number in range(many):
        web, rows = ALL[number % len(ALL)]
        keepings = oracle.keepings(web)
        tour = tuple(chance.choice(keepings) for _ in range(stops))
        if len(set(tour)) > 1:
            yield web, rows, tour, chance


class StoreLife:
    """A store that falls at any write, and whose openings fall themselves."""

    def __init__(self, test, web, rows, start, cells, chance):
        self.test, self.web, self.rows, self.chance = test, web, rows, chance
        self.width = len(rows[0])
        self.disk = laid(web, rows, start, cells)
        self.store = Store(web, self.width, self.disk)
        self.falls = self.fallen_openings = 0

    def check(self):
        """What lies there tells every row; so does what would lie there behind a fall."""
        right = dict(enumerate(self.rows))
        self.test.assertEqual(meaning(self.web, self.width, self.disk), right)
        self.test.assertEqual(meaning(self.web, self.width, self.disk.copy()), right)

    def reopen(self):
        """Opens the disk anew; openings may fall, too."""
        while True:
            self.disk.cut()
            self.check()
            self.disk.power(self.chance.choice((None, None, 0, 1, 2)))
            try:
                self.store = Store(self.web, self.width, self.disk)
                return
            except Stopped:
                self.fallen_openings += 1
                self.check()

    def fall(self):
        """Some of what waits reaches, in some order; the rest is lost."""
        waiting = list(self.disk.waiting())
        self.chance.shuffle(waiting)
        self.disk.power(None)
        for cell in waiting[:self.chance.randrange(len(waiting) + 1)]:
            self.disk.reach(cell)
            self.check()
        self.falls += 1
        self.reopen()

    def turn(self, goal):
        """Turns the store, again and again if that falls."""
        while True:
            try:
                self.store.turn(goal)
                return
            except Stopped:
                self.falls += 1
                self.check()
                self.reopen()

    def go(self, goal, others):
        """Turns the store to a goal, whatever comes amid."""
        self.turn(goal)
        troubles = 12
        while self.store.left() > 0:
            try:
                self.disk.power(self.chance.randrange(9) if troubles > 0 and self.chance.randrange(2) else None)
                for _ in range(self.chance.randrange(1, 12)):
                    self.store.step()
                    self.test.assertEqual(self.store.rows(), self.rows)
            except Stopped:
                troubles -= 1
                self.falls += 1
                self.check()
                self.reopen()
                self.turn(goal)
            self.check()
            if troubles > 0 and self.chance.randrange(3) == 0:
                troubles -= 1
                if self.chance.randrange(2):
                    self.fall()
                    self.turn(goal)
                else:
                    self.turn(self.chance.choice(others))
                    self.test.assertIn(self.store.goal(), others)
                    self.turn(goal)
        self.test.assertEqual((self.store.whole(), half(self.web, self.width, self.disk), self.disk.used()),
                              (goal, (), oracle.size(self.web, goal)))


class Stores(unittest.TestCase):

    def test_in_just_the_room(self):
        falls = fallen_openings = 0
        for web, rows, tour, chance in tours(161, 90, 6):
            life = StoreLife(self, web, rows, tour[0], tour_room(web, tour), chance)
            for goal in tour[1:]:
                life.go(goal, tour)
            falls += life.falls
            fallen_openings += life.fallen_openings
        self.assertGreater(falls, 300)
        self.assertGreater(fallen_openings, 100)

    def test_in_one_cell_less(self):
        turned_away = 0
        for web, rows, tour, chance in tours(162, 60, 6):
            cells = tour_room(web, tour) - 1
            if cells < oracle.size(web, tour[0]):
                self.assertRaises(NoRoom, laid, web, rows, tour[0], cells)
                continue
            life = StoreLife(self, web, rows, tour[0], cells, chance)
            at = tour[0]
            for goal in tour[1:]:
                # Only those that are together with what lies there can be come to.
                if least_room(web, at, goal) <= cells:
                    life.go(goal, (at, goal))
                    at = goal
                    continue
                turned_away += 1
                with self.assertRaises(NoRoom) as caught:
                    life.store.turn(goal)
                self.assertEqual(caught.exception.least, least_room(web, at, goal))
                self.assertEqual((life.store.whole(), life.store.left()), (at, 0))
        self.assertGreater(turned_away, 30)

    def test_opened_twice_is_as_opened_once(self):
        for web, rows, tour, chance in tours(163, 30, 3):
            life = StoreLife(self, web, rows, tour[0], tour_room(web, tour), chance)
            for goal in tour[1:]:
                life.go(goal, tour)
                life.fall()
                cells = [life.disk.lying(cell) for cell in range(life.disk.many_cells())]
                Store(web, life.width, life.disk)
                self.assertEqual([life.disk.lying(cell) for cell in range(life.disk.many_cells())], cells)


class Houses(unittest.TestCase):

    def live(self, house, hand, rows, goal, chance):
        """Turns a house, and another one by hand, to a goal, with falls, losses and rises amid."""
        web, told = hand.web, {"Stopped": 0, "lose": 0}
        for one in (house, hand):
            one.turn(goal)
        troubles = 8
        while house.work(0) > 0:
            many, steps = chance.randrange(9) if troubles > 0 else None, chance.randrange(1, 15)
            ends = []
            for one in (house, hand):
                one.power(many)
                try:
                    ends.append(one.work(steps))
                except Stopped:
                    ends.append("Stopped")
            self.assertEqual(ends[0], ends[1])
            if ends[0] == "Stopped" or (troubles > 0 and chance.randrange(4) == 0):
                troubles -= 1
                told["Stopped"] += ends[0] == "Stopped"
                self.assertEqual((house.rise(), hand.rise()), (tuple(range(web.many)),) * 2)
            # What is waiting is left aside: so much may be lost.
            if troubles > 0 and hand.safe_for() > 0:
                piece = chance.choice(hand.lying())
                if piece in hand.whole():
                    troubles -= 1
                    told["lose"] += 1
                    self.assertEqual((house.lose(piece), hand.lose(piece)), ((), ()))
            self.assertEqual((every_row(house, web), house.goal()), (rows, goal))
            for name in ("whole", "used", "lost", "book"):
                self.assertEqual(getattr(house, name)(), getattr(hand, name)())
        return told

    def test_in_just_the_room(self):
        stopped = losses = 0
        for web, rows, tour, chance in tours(164, 60, 6):
            cells = tour_room(web, tour)
            house, hand = House(web, rows, tour[0], cells), Hand(web, rows, tour[0], cells)
            for goal in tour[1:]:
                told = self.live(house, hand, rows, goal, chance)
                stopped += told["Stopped"]
                losses += told["lose"]
                self.assertEqual((house.whole(), house.used(), house.goal()), (goal, oracle.size(web, goal), goal))
            self.assertEqual([goal for word, goal in house.book() if word == "turn"], list(tour[1:]))
        self.assertGreater(min(stopped, losses), 60)

    def test_in_one_cell_less(self):
        turned_away = 0
        for web, rows, tour, chance in tours(165, 60, 6):
            cells = tour_room(web, tour) - 1
            if cells < oracle.size(web, tour[0]):
                self.assertRaises(NoRoom, House, web, rows, tour[0], cells)
                continue
            house, hand = House(web, rows, tour[0], cells), Hand(web, rows, tour[0], cells)
            for goal in tour[1:]:
                least = house.least_for(goal)
                if least <= cells:
                    self.live(house, hand, rows, goal, chance)
                    continue
                turned_away += 1
                before = (house.whole(), house.goal(), house.book())
                with self.assertRaises(NoRoom) as caught:
                    house.turn(goal)
                self.assertEqual(caught.exception.least, least)
                self.assertEqual((house.whole(), house.goal(), house.book()), before)
        self.assertGreater(turned_away, 30)


class Together(unittest.TestCase):
    """What the layers tell of one and the same way."""

    def test_one_way_through_all_layers(self):
        for web, rows, tour, _ in tours(166, 40, 3):
            room = tour_room(web, tour)
            plan = tour_plan(web, tour)
            self.assertEqual((read_web(web_text(web)), read_plan(plan_text(plan))), (web, plan))
            for one, other in zip(tour, tour[1:]):
                self.assertIs(is_together(web, one, other, room), True)
                self.assertEqual(led(web, one, other, room, 400, mover_for(web, one, other))[0], "kept")
            self.assertIn(min(floors(web, room), key=lambda lot: oracle.size(web, lot)), oracle.keepings(web))

    def test_a_house_leaves_what_a_store_opens(self):
        # The disk of a turning by hand lies as the house tells it, at every step.
        for web, rows, tour, _ in tours(167, 20, 2):
            cells = tour_room(web, tour)
            house, hand = House(web, rows, tour[0], cells), Hand(web, rows, tour[0], cells)
            house.turn(tour[1])
            hand.turn(tour[1])
            while house.work(1) > 0:
                hand.work(1)
                self.assertIs(type(hand.disk), Disk)
                self.assertEqual((house.used(), house.whole()), (hand.disk.used(), hand.store.whole()))
                self.assertEqual(Store(web, hand.width, hand.disk.copy()).rows(), rows)
            hand.work(1)
            self.assertEqual(whole(web, hand.width, hand.disk), tour[1])


if __name__ == "__main__":
    unittest.main()
