"""Points 13.1 to 13.3: the house."""

import unittest
from itertools import permutations
from random import Random

from lightfirst.contents import web_of
from lightfirst.errors import (BadDisk, Broken, KeepError, NoKeeping, NoneSafe, NoNumber, NoPiece, NoRoom, NoRows,
                               NoVersion, Stopped, TooMany)
from lightfirst.house import House
from lightfirst.losses import lightest_safe, powers, safety
from lightfirst.room import least_room
from lightfirst.webs import Web
from tests import oracle
from tests.hand import Hand
from tests.test_store import WORLDS, pairs_of, turnings

R = ((1, 2), (1, 3))
W = web_of(5, R, ((1, 0), (0, 1), (4, 1)))
GREATEST = 10 ** 6
# A house with pieces of which each two are a keeping, and of which some are lighter than others.
SAFE_ROWS = ((1, 2, 3), (1, 3, 3))
SAFE = web_of(5, SAFE_ROWS, ((1, 0), (0, 1), (1, 1), (4, 1), (1, 2), (1, 3)))
STANDING = ("whole", "used", "lost", "book")


def every_row(house, web):
    """The rows that a house tells."""
    return tuple(house.row(version) for version in range(web.many))


def ended(house):
    """Works a house to the end of its turning."""
    while house.work(1) > 0:
        pass
    return house.whole()


class Turnings(unittest.TestCase):
    """All turnings of small webs, in the least room."""

    def test_step_by_step(self):
        for web, rows in WORLDS:
            for start, goal in pairs_of(web):
                least = least_room(web, start, goal)
                house = House(web, rows, start, least)
                self.assertEqual((house.goal(), house.work(GREATEST), house.whole()), (None, 0, start))
                self.assertEqual(house.least_for(goal), least)
                self.assertIsNone(house.turn(goal))
                left = house.work(0)
                while left > 0:
                    self.assertEqual((house.goal(), every_row(house, web)), (goal, rows))
                    self.assertLessEqual(house.used(), least)
                    self.assertEqual(house.work(1), left - 1)
                    left -= 1
                self.assertEqual((house.whole(), house.used(), house.goal(), house.least_for(goal)),
                                 (goal, oracle.size(web, goal), goal, oracle.size(web, goal)))
                self.assertEqual((every_row(house, web), house.book(), house.lost()), (rows, [("turn", goal)], []))

    def test_one_cell_less(self):
        for web, rows in WORLDS:
            for start, goal in pairs_of(web):
                least = least_room(web, start, goal)
                if least > oracle.size(web, start):
                    house = House(web, rows, start, least - 1)
                    with self.assertRaises(NoRoom) as caught:
                        house.turn(goal)
                    self.assertEqual((caught.exception.least, house.least_for(goal)), (least, least))
                    self.assertEqual((house.goal(), house.work(9), house.whole(), house.book()), (None, 0, start, []))

    def test_just_enough_cells_for_the_house_itself(self):
        for web, rows in WORLDS:
            for keeping in oracle.keepings(web):
                size = oracle.size(web, keeping)
                house = House(web, rows, keeping, size)
                self.assertEqual((house.whole(), house.used(), every_row(house, web)), (keeping, size, rows))
                if size > 1:
                    with self.assertRaises(NoRoom) as caught:
                        House(web, rows, keeping, size - 1)
                    self.assertEqual(caught.exception.least, size)

    def test_so_many_steps(self):
        for many in (1, 2, 3, 7, 100, GREATEST):
            house = House(W, R, (0, 2), 8)
            house.turn((1, 2))
            left = house.work(0)
            while left > 0:
                self.assertEqual(house.work(many), max(0, left - many))
                left = max(0, left - many)
            self.assertEqual((house.whole(), house.work(0), house.work(GREATEST)), ((1, 2), 0, 0))

    def test_lighten(self):
        for web, rows in WORLDS:
            lightest = oracle.greedy(web, range(len(web.pieces)))
            for start in oracle.keepings(web):
                least = least_room(web, start, lightest)
                house = House(web, rows, start, least)
                self.assertIsNone(house.lighten())
                self.assertEqual((house.goal(), house.book()), (lightest, [("turn", lightest)]))
                self.assertEqual((house.work(GREATEST), house.whole()), (0, lightest))
                if least > oracle.size(web, start):
                    house = House(web, rows, start, least - 1)
                    with self.assertRaises(NoRoom) as caught:
                        house.lighten()
                    self.assertEqual((caught.exception.least, house.book(), house.goal()), (least, [], None))

    def test_strengthen(self):
        for web, rows in WORLDS + [(SAFE, SAFE_ROWS)]:
            start = oracle.greedy(web, range(len(web.pieces)))
            for k in range(13):
                goal = lightest_safe(web, k)
                house = House(web, rows, start, 60)
                if goal is None:
                    self.assertRaises(NoneSafe, house.strengthen, k)
                    self.assertEqual((house.goal(), house.book()), (None, []))
                    continue
                self.assertIsNone(house.strengthen(k))
                self.assertEqual((house.goal(), house.book()), (goal, [("turn", goal)]))
                self.assertEqual((house.work(GREATEST), house.whole()), (0, goal))
                self.assertGreaterEqual(safety(web, house.whole()), k)

    def test_strengthen_in_too_little_room(self):
        goal = lightest_safe(SAFE, 2)
        least = least_room(SAFE, (0, 1), goal)
        house = House(SAFE, SAFE_ROWS, (0, 1), least - 1)
        with self.assertRaises(NoRoom) as caught:
            house.strengthen(2)
        self.assertEqual((caught.exception.least, house.goal(), house.book()), (least, None, []))
        self.assertIsNone(House(SAFE, SAFE_ROWS, (0, 1), least).strengthen(2))

    def test_another_goal_amid_a_turning(self):
        for at in range(12):
            house = House(SAFE, SAFE_ROWS, (0, 1), 30)
            house.turn((2, 4))
            house.work(at)
            before = house.whole()
            house.turn((0, 1, 2, 3))
            self.assertEqual((house.whole(), house.goal()), (before, (0, 1, 2, 3)))
            self.assertEqual((house.work(GREATEST), house.whole(), every_row(house, SAFE)),
                             (0, (0, 1, 2, 3), SAFE_ROWS))
            self.assertEqual(house.book(), [("turn", (2, 4)), ("turn", (0, 1, 2, 3))])

    def test_whole_counts_what_waits_and_used_does_not(self):
        house = House(W, R, (0, 2), 8)
        house.turn((0, 1, 2))
        self.assertEqual([(house.work(1), house.whole(), house.used()) for _ in range(4)],
                         [(3, (0, 2), 5), (2, (0, 2), 5), (1, (0, 1, 2), 5), (0, (0, 1, 2), 8)])

    def test_two_thousand_cells_and_one(self):
        house = House(W, R, (0, 2), 2000)
        for goal in ((1, 2), (0, 1, 2), (0, 1)):
            house.turn(goal)
            self.assertEqual((ended(house), every_row(house, W)), (goal, R))
        web = web_of(2, ((0,),), ((1,), (1,)))
        house = House(web, ((0,),), (1,), 1)
        self.assertEqual((house.whole(), house.used(), house.row(0), house.least_for((0,))), ((1,), 1, (0,), 2))
        self.assertRaises(NoRoom, house.turn, (0,))
        self.assertRaises(NoRoom, house.lighten)
        self.assertEqual((house.book(), house.goal()), ([], None))

    def test_changed_lists_change_nothing(self):
        house = House(W, R, (0, 1, 2), 8)
        house.turn((0, 1))
        house.lose(2)
        for told, right in ((house.book, [("turn", (0, 1)), ("lose", 2)]), (house.lost, [2])):
            told().clear()
            told().append(None)
            self.assertEqual(told(), right)


class Falls(unittest.TestCase):
    """The great fact for a house: a turning falls at every write."""

    def falls(self, house, many):
        """Works a house to the end, or to a fall with so much power; whether it fell."""
        house.power(many)
        try:
            house.work(GREATEST)
        except Stopped:
            return True
        return False

    def test_ends_once(self):
        for web, rows, start, goal, cells in turnings(5):
            for strength in range(200):
                house = House(web, rows, start, cells)
                house.turn(goal)
                if not self.falls(house, strength):
                    break
                self.assertEqual(house.rise(), tuple(range(web.many)))
                told = house.whole()
                self.assertEqual((house.goal(), house.book()), (goal, [("turn", goal), ("rise", told)]))
                self.assertEqual(house.used(), oracle.size(web, told))
                self.assertEqual(every_row(house, web), rows)
                # The power is there again.
                self.assertEqual((ended(house), every_row(house, web)), (goal, rows))
                self.assertEqual(house.used(), oracle.size(web, goal))
            self.assertEqual((house.whole(), house.used()), (goal, oracle.size(web, goal)))

    def test_ends_again_and_again(self):
        for web, rows, start, goal, cells in turnings(23):
            for first in (0, 1, 2, 5, 9):
                house = House(web, rows, start, cells)
                house.turn(goal)
                rises = 0
                for strength in range(first, first + 60):
                    if not self.falls(house, strength):
                        break
                    rises += 1
                    self.assertEqual(house.rise(), tuple(range(web.many)))
                    self.assertEqual(every_row(house, web), rows)
                self.assertEqual((house.whole(), [word for word, _ in house.book()]),
                                 (goal, ["turn"] + ["rise"] * rises))

    def test_a_turn_that_falls(self):
        # What waited for the elder goal can't reach: the goal is the elder one still.
        for call, told in (("turn", ((0, 1),)), ("lighten", ()), ("strengthen", (1,))):
            for strength in range(3):
                house = House(W, R, (0, 2), 8)
                house.turn((0, 1, 2))
                house.work(3)
                house.power(strength)
                self.assertRaises(Stopped, getattr(house, call), *told)
                self.assertEqual((house.rise(), house.goal(), house.whole()), ((0, 1), (0, 1, 2), (0, 2)))
                self.assertEqual(house.book(), [("turn", (0, 1, 2)), ("rise", (0, 2))])
                self.assertEqual((ended(house), every_row(house, W)), ((0, 1, 2), R))

    def test_power(self):
        house = House(W, R, (0, 2), 8)
        house.turn((1, 2))
        for many in (0, 2, GREATEST, None):
            self.assertIsNone(house.power(many))
        self.assertEqual(ended(house), (1, 2))
        house.turn((0, 2))
        house.power(0)
        # Only a calm lets writes reach.
        left = house.work(2)
        self.assertRaises(Stopped, house.work, GREATEST)
        self.assertEqual((house.rise(), house.whole(), house.work(0)), ((0, 1), (1, 2), left + 2))

    def test_rise_without_a_fall(self):
        for at in range(12):
            house = House(W, R, (0, 2), 8)
            self.assertEqual((house.rise(), house.goal(), house.book()), ((0, 1), None, [("rise", (0, 2))]))
            house.turn((1, 2))
            house.work(at)
            house.power(1)
            self.assertEqual((house.rise(), house.goal(), every_row(house, W)), ((0, 1), (1, 2), R))
            self.assertEqual(house.used(), oracle.size(W, house.whole()))
            self.assertEqual(house.book()[1:], [("turn", (1, 2)), ("rise", house.whole())])
            self.assertEqual((ended(house), every_row(house, W)), ((1, 2), R))
            self.assertEqual((house.rise(), house.goal(), house.whole()), ((0, 1), (1, 2), (1, 2)))

    def test_the_house_in_any_room_and_order(self):
        chance = Random(131)
        for web, rows, start, goal, cells in turnings(2):
            house = House(web, rows, start, cells)
            house.turn(goal)
            while house.whole() != goal or house.work(0) > 0:
                if self.falls(house, chance.randrange(12)):
                    house.rise()
                self.assertEqual(every_row(house, web), rows)
            self.assertEqual((house.whole(), house.used(), house.goal()), (goal, oracle.size(web, goal), goal))


class Losses(unittest.TestCase):

    def safe_house(self, k):
        """A house that was made safe against k losses."""
        house = House(SAFE, SAFE_ROWS, (0, 1), 60)
        house.strengthen(k)
        self.assertEqual(safety(SAFE, ended(house)), k)
        return house

    def test_as_many_as_it_is_safe_for(self):
        for k in (1, 2, 3):
            for lost in permutations(lightest_safe(SAFE, k), k):
                house = self.safe_house(k)
                goal = house.goal()
                for piece in lost:
                    self.assertEqual((house.lose(piece), house.goal()), ((), goal))
                    self.assertNotIn(piece, house.whole())
                    self.assertEqual(every_row(house, SAFE), SAFE_ROWS)
                self.assertEqual(house.lost(), sorted(lost))
                self.assertEqual(house.book(), [("turn", goal)] + [("lose", piece) for piece in lost])
                # It turns to its goal again.
                self.assertEqual((ended(house), every_row(house, SAFE)), (goal, SAFE_ROWS))

    def test_amid_steps(self):
        for k in (1, 2):
            for at in range(25):
                for piece in range(6):
                    self.check_amid(k, at, piece)

    def check_amid(self, k, at, piece):
        house, hand = self.safe_house(k), Hand(SAFE, SAFE_ROWS, (0, 1), 60)
        hand.strengthen(k)
        hand.work(GREATEST)
        for one in (house, hand):
            one.turn((4, 5))
            one.work(at)
        if piece not in hand.whole():
            self.assertRaises(NoPiece, house.lose, piece)
            return
        safe = hand.safe_for()
        told = hand.lose(piece)
        self.assertEqual(house.lose(piece), told)
        self.assertTrue(told == () or safe < 1)
        self.assertEqual((house.whole(), house.used(), house.lost(), house.book()),
                         (hand.whole(), hand.used(), hand.lost(), hand.book()))
        if told == ():
            self.assertEqual((house.goal(), every_row(house, SAFE), ended(house)), ((4, 5), SAFE_ROWS, (4, 5)))
        else:
            self.assertRaises(Broken, house.goal)

    def test_one_behind_another_amid_steps(self):
        chance = Random(132)
        lost = 0
        for _ in range(60):
            house, hand = House(SAFE, SAFE_ROWS, (0, 1), 60), Hand(SAFE, SAFE_ROWS, (0, 1), 60)
            for one in (house, hand):
                one.strengthen(2)
                one.work(GREATEST)
            for _ in range(12):
                many = chance.randrange(9)
                self.assertEqual(house.work(many), hand.work(many))
                lying = hand.lying()
                if hand.safe_for() > 0:
                    lost += 1
                    piece = chance.choice(lying)
                    if piece in hand.whole():
                        self.assertEqual((house.lose(piece), hand.lose(piece)), ((), ()))
                self.assertEqual((house.whole(), house.goal(), every_row(house, SAFE)),
                                 (hand.whole(), hand.goal(), SAFE_ROWS))
            self.assertEqual((ended(house), house.lost()), (lightest_safe(SAFE, 2), hand.lost()))
        self.assertGreater(lost, 100)

    def test_lost_as_often_as_they_were(self):
        house = self.safe_house(2)
        goal = house.goal()
        for piece in (goal[1], goal[0], goal[1]):
            house.lose(piece)
            ended(house)
        self.assertEqual((house.lost(), house.whole()), ([goal[0], goal[1], goal[1]], goal))
        self.assertEqual(house.book()[1:], [("lose", goal[1]), ("lose", goal[0]), ("lose", goal[1])])

    def test_without_a_goal(self):
        house = House(W, R, (0, 1, 2), 8)
        self.assertEqual((house.lose(0), house.whole(), house.goal(), house.work(9), house.used()),
                         ((), (1, 2), None, 0, 5))
        self.assertEqual((every_row(house, W), house.book(), house.lost()), (R, [("lose", 0)], [0]))

    def test_what_waits_is_cut_and_the_power_is_there_again(self):
        house = House(W, R, (0, 1, 2), 11)
        house.turn((1, 2))
        house.power(0)
        self.assertEqual((house.work(2), house.whole(), house.used()), (2, (1, 2), 8))
        # Piece 0 waits to be dropped: it is no whole one, but comes back as what waits is cut.
        self.assertRaises(NoPiece, house.lose, 0)
        self.assertEqual((house.lose(2), house.whole(), house.used(), house.goal()), ((), (0, 1), 6, (1, 2)))
        self.assertEqual((ended(house), every_row(house, W)), ((1, 2), R))

    def test_a_piece_that_waits_is_lost(self):
        house = House(W, R, (0, 2), 8)
        house.turn((0, 1, 2))
        house.work(3)
        self.assertEqual((house.whole(), house.lose(1), house.whole(), house.used()), ((0, 1, 2), (), (0, 2), 5))
        self.assertEqual((house.lost(), house.goal(), house.work(0), ended(house)), ([1], (0, 1, 2), 4, (0, 1, 2)))

    def test_turned_to_the_goal_again_in_just_the_room(self):
        # What was lost can be written again where it lay, so there is always room for the goal that was turned to.
        rows = ((1, 2, 3, 4), (1, 2, 3, 3))
        web = web_of(5, rows, ((1, 0), (0, 1), (4, 1), (1, 1)))
        for start, goal in pairs_of(web):
            for piece in start:
                left = tuple(k for k in start if k != piece)
                if not oracle.is_keeping(web, left):
                    continue
                cells = least_room(web, start, goal)
                house = House(web, rows, start, cells)
                house.turn(goal)
                self.assertEqual((house.lose(piece), house.whole(), house.goal()), ((), left, goal))
                self.assertLessEqual(house.least_for(goal), cells)
                self.assertEqual((ended(house), every_row(house, web)), (goal, rows))


class BrokenHouses(unittest.TestCase):
    """Houses that lose so much that a version can be read no more."""

    def broken(self):
        """A broken house, with what it should tell."""
        house = House(W, R, (0, 1, 2), 8)
        house.turn((0, 1))
        self.assertEqual((house.lose(1), house.lose(2)), ((), (1,)))
        return house

    def test_what_can_be_read_no_more(self):
        for web, rows in WORLDS:
            for keeping in oracle.keepings(web):
                for piece in keeping:
                    left = tuple(k for k in keeping if k != piece)
                    house = House(web, rows, keeping, oracle.size(web, keeping))
                    missing = tuple(v for v in range(web.many) if v not in oracle.told(web, left))
                    self.assertEqual((house.lose(piece), house.whole(), house.used()),
                                     (missing, left, oracle.size(web, left)))
                    self.assertEqual((house.lost(), house.book()), ([piece], [("lose", piece)]))
                    if missing:
                        self.assertRaises(Broken, house.rise)
                    else:
                        self.assertEqual(house.rise(), tuple(range(web.many)))

    def test_all_but_four_methods_raise_ahead_of_all_else(self):
        house = self.broken()
        calls = (("row", 1), ("least_for", 1), ("turn", 1), ("lighten", 0), ("strengthen", 1), ("work", 1), ("goal", 0),
                 ("lose", 1), ("power", 1), ("rise", 0))
        for call, many in calls:
            for thing in oracle.junk() + [0, 1, (0,), (0, 1), -1]:
                self.assertRaises(Broken, getattr(house, call), *[thing] * many)
        self.assertEqual((house.whole(), house.used(), house.lost()), ((0,), 3, [1, 2]))
        self.assertEqual(house.book(), [("turn", (0, 1)), ("lose", 1), ("lose", 2)])

    def test_what_lies_amid_a_turning(self):
        house = House(W, R, (0, 1), 8)
        house.turn((1, 2))
        # Piece 2 is whole by what waits alone; without it and piece 0 nothing tells version 0.
        house.work(2)
        self.assertEqual((house.whole(), house.used()), ((0, 1, 2), 6))
        self.assertEqual((house.lose(0), house.whole(), house.used()), ((0,), (1,), 3))
        self.assertEqual((house.lost(), house.book()), ([0], [("turn", (1, 2)), ("lose", 0)]))
        # Behind the calm both of it and piece 1 are enough.
        house = House(W, R, (0, 1), 8)
        house.turn((1, 2))
        house.work(3)
        self.assertEqual((house.lose(0), house.whole(), house.used(), every_row(house, W)), ((), (1, 2), 5, R))

    def test_half_pieces_are_cleared_by_rise(self):
        hand, house = Hand(W, R, (0, 1), 8), House(W, R, (0, 1), 8)
        for one in (hand, house):
            one.turn((1, 2))
            one.work(2)
            one.power(1)
            self.assertRaises(Stopped, one.work, 1)
        # Only rise is let here; it clears what is half.
        self.assertEqual((hand.used(), house.used()), (7, 7))
        self.assertEqual((house.rise(), house.used(), house.whole()), ((0, 1), 6, (0, 1)))


class Lives(unittest.TestCase):
    """Long lives, against a house led by hand."""

    CALLS = ("turn", "turn", "turn", "lighten", "strengthen", "work", "work", "work", "work", "lose", "lose", "rise",
             "power", "least_for", "row", "goal")

    def argument(self, chance, call, web, keepings):
        """Arguments for a call, mostly right ones."""
        if call in ("turn", "least_for"):
            return (chance.choice(keepings + [(0,)]),)
        if call == "power":
            return (chance.choice((None, None, 0, 1, 4, 9, 30)),)
        return {"strengthen": (chance.randrange(3),), "work": (chance.choice((0, 1, 2, 3, 5, 50)),),
                "lose": (chance.randrange(len(web.pieces)),), "row": (chance.randrange(web.many),)}.get(call, ())

    def tried(self, one, call, told):
        """What a call gives, or the error with its fields."""
        try:
            return getattr(one, call)(*told)
        except KeepError as error:
            return (error.__class__.__name__, vars(error))

    def test_lives(self):
        chance = Random(133)
        ends = {}
        for web, rows in WORLDS + [(SAFE, SAFE_ROWS)] * 3:
            keepings = oracle.keepings(web)
            for _ in range(40):
                start = chance.choice(keepings)
                cells = oracle.size(web, start) + chance.randrange(8)
                house, hand = House(web, rows, start, cells), Hand(web, rows, start, cells)
                for _ in range(30):
                    call = chance.choice(self.CALLS)
                    told = self.argument(chance, call, web, keepings)
                    safe = hand.safe_for()
                    found = self.tried(hand, call, told)
                    self.assertEqual(self.tried(house, call, told), found)
                    if isinstance(found, tuple) and found and found[0] == "Stopped":
                        self.assertEqual(hand.told(), dict(enumerate(rows)))
                        self.assertEqual(house.rise(), hand.rise())
                    if call == "lose" and safe > 0 and not hand.broken:
                        self.assertEqual(hand.told(), dict(enumerate(rows)))
                    for name in STANDING:
                        self.assertEqual(getattr(house, name)(), getattr(hand, name)())
                    end = found[0] if isinstance(found, tuple) and found and isinstance(found[0], str) else "right"
                    ends[call, end] = ends.get((call, end), 0) + 1
        for at in (("turn", "NoRoom"), ("turn", "NoKeeping"), ("turn", "Broken"), ("work", "Stopped"),
                   ("lose", "NoPiece"),
                   ("lose", "right"), ("rise", "right"), ("strengthen", "NoneSafe"), ("turn", "right")):
            self.assertGreater(ends.get(at, 0), 5, at)


class WrongThings(unittest.TestCase):
    """What is raised, in which order; what raises does not stand in the book."""

    def test_what_laid_raises(self):
        every = (0, 1)
        for thing in oracle.junk() + [(), (R,), (R[0],), R + R, ((1, 2), (1, 5)), ((1, 2), (1,)), ((0, 2), (1, 3)),
                                      ((), ())]:
            self.assertRaises(NoRows, House, W, thing, None, None)
            self.assertRaises(NoRows, House, W, thing, every, 8)
        for thing in oracle.junk() + [0, (), (0,), (1, 0), [0, 1], (0, 3), (0, 0), (False, 1)]:
            self.assertRaises(NoKeeping, House, W, R, thing, None)
            self.assertRaises(NoKeeping, House, W, R, thing, 8)
        for thing in oracle.no_integers() + [-1, 0, 2001, 10 ** 59]:
            self.assertRaises(BadDisk, House, W, R, every, thing)
        with self.assertRaises(NoRoom) as caught:
            House(W, R, (0, 1, 2), 7)
        self.assertEqual(caught.exception.least, 8)
        # A web that does not fit the rows.
        self.assertRaises(NoRows, House, Web(5, 2, (((1, 0), 3), ((0, 1), 4))), R, None, None)

    def check_untouched(self, house, calls):
        """Each call raises its error, and the house is as it was."""
        before = (house.whole(), house.used(), house.goal(), house.work(0), house.lost(), house.book())
        for error, call, told in calls:
            self.assertRaises(error, call, *told)
            self.assertEqual((house.whole(), house.used(), house.goal(), house.work(0), house.lost(), house.book()),
                             before)

    def test_each_method(self):
        house = House(W, R, (0, 2), 8)
        house.turn((1, 2))
        house.work(2)
        calls = [(NoVersion, house.row, (thing,)) for thing in oracle.no_integers() + [-1, 2, 10 ** 59]]
        for thing in oracle.junk() + [0, (), (0,), (1, 0), [0, 1], (0, 3), (0, 0), (False, 1)]:
            calls += [(NoKeeping, house.turn, (thing,)), (NoKeeping, house.least_for, (thing,))]
        calls += [(NoNumber, house.strengthen, (thing,)) for thing in oracle.many_things() + [13, 10 ** 59]]
        calls += [(NoNumber, house.work, (thing,)) for thing in oracle.many_things() + [GREATEST + 1]]
        calls += [(NoPiece, house.lose, (thing,)) for thing in oracle.no_integers() + [-1, 1, 3, 10 ** 59]]
        calls += [(NoNumber, house.power, (thing,)) for thing in oracle.many_things() + [GREATEST + 1]
                  if thing is not None]
        calls += [(NoneSafe, house.strengthen, (k,)) for k in range(2, 13)]
        self.check_untouched(house, calls)
        self.assertEqual((ended(house), every_row(house, W)), ((1, 2), R))

    def test_no_room_amid_a_turning(self):
        house = House(W, R, (0, 2), 7)
        self.check_untouched(house, [(NoRoom, house.turn, ((0, 1, 2),)), (NoRoom, house.strengthen, (1,))])

    def test_strengthen_too_many(self):
        rows = ((1,), (1,))
        web = web_of(13, rows, tuple(values for values, _ in powers(13, 2, 13, 5).pieces))
        house = House(web, rows, (0, 1), 30)
        for k in (0, 1, 12):
            with self.assertRaises(TooMany) as caught:
                house.strengthen(k)
            self.assertEqual((caught.exception.most, house.book(), house.goal()), (12, [], None))
        self.assertRaises(NoNumber, house.strengthen, 13)
        house.lighten()
        self.assertEqual(ended(house), oracle.greedy(web, range(13)))

    def test_equal_to_itself_alone(self):
        house = House(W, R, (0, 2), 8)
        self.assertTrue(house == house)
        self.assertFalse(house == House(W, R, (0, 2), 8))
        for thing in oracle.junk():
            self.assertFalse(house == thing)

    def test_kinds_of_what_is_returned(self):
        house = House(W, R, (0, 2), 8)
        self.assertEqual([type(found) for found in (
            house.turn((1, 2)), house.lighten(), house.strengthen(0), house.power(None), house.row(0), house.whole(),
            house.goal(), house.rise(), house.used(), house.least_for((0, 1)), house.work(1), house.lost(),
            house.book(), house.book()[0], house.lose(0))],
            [type(None)] * 4 + [tuple] * 4 + [int] * 3 + [list] * 2 + [tuple] * 2)


if __name__ == "__main__":
    unittest.main()
