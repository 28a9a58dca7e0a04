"""Point 7.2: pieces that help or weigh on a way, and tours."""

import unittest
from heapq import heappop, heappush
from itertools import permutations, product
from random import Random

from lightfirst.errors import NoKeeping, NoTour
from lightfirst.plans import is_plan, moments, room_of
from lightfirst.room import least_room
from lightfirst.tours import best_order, helpers, tour_plan, tour_room, weighers
from lightfirst.webs import Web
from tests import oracle

V = Web(3, 3, (((1, 0, 0), 10), ((0, 1, 0), 10), ((2, 1, 0), 3), ((0, 0, 1), 4), ((1, 0, 2), 2), ((0, 1, 2), 2)))
LEAN = Web(2, 3, (((1, 0, 0), 4), ((0, 1, 0), 5), ((0, 0, 1), 6)))
WEBS = oracle.random_webs(72, 14)


def every(web):
    """The lot of all pieces."""
    return tuple(range(len(web.pieces)))


def room_through(web, tour):
    """The least room of a tour, by a search over all keepings, each with how many stops are done."""
    queue = [(oracle.size(web, tour[0]), 1, tour[0])]
    done = set()
    while True:
        room, stops, lot = heappop(queue)
        while stops < len(tour) and tour[stops] == lot:
            stops += 1
        if stops == len(tour):
            return room
        if (stops, lot) in done:
            continue
        done.add((stops, lot))
        for piece in every(web):
            after = oracle.toggled(lot, piece)
            if oracle.is_keeping(web, after):
                heappush(queue, (max(room, oracle.size(web, after)), stops, after))


def random_tours(seed, many_webs, longest):
    """Webs with tours through them."""
    chance = Random(seed)
    for web in oracle.random_webs(seed, many_webs):
        keepings = oracle.keepings(web)
        for many in list(range(1, longest + 1)) * 3:
            yield web, tuple(chance.choice(keepings) for _ in range(many))


class SmallWebs(unittest.TestCase):

    def test_helpers(self):
        found = 0
        for web in WEBS:
            for start in oracle.keepings(web)[::4]:
                rooms = oracle.rooms_from(web, start, every(web), ())
                others = [k for k in every(web) if k not in start]
                by_less = {k: oracle.rooms_from(web, start, tuple(o for o in every(web) if o != k), ()) for k in others}
                for goal in oracle.keepings(web)[::3]:
                    right = tuple(k for k in others if k not in goal and by_less[k][goal] > rooms[goal])
                    self.assertEqual(helpers(web, start, goal), right)
                    found += len(right)
        self.assertGreater(found, 20)

    def test_weighers(self):
        found = 0
        for web in WEBS:
            for start in oracle.keepings(web)[::4]:
                rooms = oracle.rooms_from(web, start, every(web), ())
                by_more = {k: oracle.rooms_from(web, start, every(web), (k,)) for k in start}
                for goal in oracle.keepings(web)[::3]:
                    right = tuple(k for k in start if k in goal and by_more[k][goal] > rooms[goal])
                    self.assertEqual(weighers(web, start, goal), right)
                    found += len(right)
        self.assertGreater(found, 20)

    def test_fact_of_tours(self):
        for web, tour in random_tours(721, 14, 5):
            right = room_through(web, tour)
            self.assertEqual(tour_room(web, tour), right)
            rooms = [least_room(web, one, other) for one, other in zip(tour, tour[1:])]
            self.assertEqual(max([oracle.size(web, tour[0])] + rooms), right)

    def test_tour_plan(self):
        for web, tour in random_tours(722, 14, 8):
            self.check_plan(web, tour)

    def check_plan(self, web, tour):
        plan = tour_plan(web, tour)
        self.assertIs(is_plan(web, tour[0], tour[-1], plan), True)
        self.assertEqual(room_of(web, tour[0], plan), tour_room(web, tour))
        at = 0
        for lot in moments(web, tour[0], plan):
            while at < len(tour) and tour[at] == lot:
                at += 1
        self.assertEqual(at, len(tour))

    def test_best_order(self):
        chance = Random(723)
        for web in WEBS:
            keepings = oracle.keepings(web)
            for many in (0, 1, 2, 3, 4):
                start, lots = chance.choice(keepings), tuple(chance.choice(keepings) for _ in range(many))
                orders = [(tour_room(web, (start,) + tuple(lots[k] for k in order)), order)
                          for order in permutations(range(many))]
                self.assertEqual(best_order(web, start, lots), min(orders)[1])


class Edges(unittest.TestCase):

    def test_one_and_eight_keepings(self):
        for lot in oracle.keepings(V):
            self.assertEqual((tour_room(V, (lot,)), tour_plan(V, (lot,))), (oracle.size(V, lot), ()))
            self.assertEqual((tour_room(V, (lot,) * 8), tour_plan(V, (lot,) * 8)), (oracle.size(V, lot), ()))
        tour = ((0, 2, 4), (1, 2, 5)) * 4
        self.assertEqual(tour_room(V, tour), 18)
        self.assertEqual(room_of(V, (0, 2, 4), tour_plan(V, tour)), 18)

    def test_none_and_nine_keepings(self):
        for tour in ((), ((0, 2, 4),) * 9, ((0,),) * 9, ((0, 2, 4),) * 20):
            for call in (tour_room, tour_plan):
                with self.assertRaises(NoTour) as caught:
                    call(V, tour)
                self.assertEqual(caught.exception.number, -1)

    def test_a_plan_of_the_greatest_tour_is_a_plan(self):
        web = oracle.powers_web(251, 10, 40, lambda a: 10 ** 6 - 1000 * a)
        chance = Random(5)
        tour = tuple(tuple(sorted(chance.sample(range(40), chance.choice((10, 25, 40))))) for _ in range(8))
        plan = tour_plan(web, tour)
        self.assertLessEqual(len(plan), 2000)
        self.assertIs(is_plan(web, tour[0], tour[-1], plan), True)
        self.assertEqual(room_of(web, tour[0], plan), tour_room(web, tour))

    def test_no_lots_and_six_lots(self):
        self.assertEqual(best_order(V, (0, 2, 4), ()), ())
        self.assertEqual(best_order(V, (0, 2, 4), ((0, 1, 3),)), (0,))
        lot = (1, 2, 5)
        self.assertEqual(best_order(V, lot, (lot,) * 6), (0, 1, 2, 3, 4, 5))
        chance = Random(724)
        for _ in range(3):
            lots = tuple(chance.choice(oracle.keepings(V)) for _ in range(6))
            rooms = {(a, b): least_room(V, a, b) for a, b in product(lots + (lot,), repeat=2)}
            orders = [(max(rooms[a, b] for a, b in zip((lot,) + told, told)), order) for order in permutations(range(6))
                      for told in [tuple(lots[k] for k in order)]]
            self.assertEqual(best_order(V, lot, lots), min(orders)[1])
        for lots in ((lot,) * 7, ((0,),) * 7):
            with self.assertRaises(NoTour) as caught:
                best_order(V, lot, lots)
            self.assertEqual(caught.exception.number, -1)

    def test_all_orders_need_the_same_room(self):
        chance = Random(725)
        for web in WEBS:
            keepings = oracle.keepings(web)
            for _ in range(9):
                start, lots = chance.choice(keepings), [chance.choice(keepings) for _ in range(4)]
                rooms = {tour_room(web, (start,) + order) for order in permutations(lots)}
                self.assertEqual(len(rooms), 1)
                self.assertEqual(best_order(web, start, tuple(lots)), (0, 1, 2, 3))

    def test_equal_keepings(self):
        for lot in oracle.keepings(V):
            self.assertEqual((helpers(V, lot, lot), weighers(V, lot, lot)), ((), ()))


class WrongThings(unittest.TestCase):
    """What is raised, in which order."""

    def test_no_keeping(self):
        for thing in oracle.no_keepings():
            for call in (helpers, weighers):
                self.assertRaises(NoKeeping, call, LEAN, thing, None)
                self.assertRaises(NoKeeping, call, LEAN, thing, (0, 1, 2))
                self.assertRaises(NoKeeping, call, LEAN, (0, 1, 2), thing)
            self.assertRaises(NoKeeping, best_order, LEAN, thing, None)
            self.assertRaises(NoKeeping, best_order, LEAN, thing, ())

    def test_no_tuple(self):
        for thing in oracle.junk() + [[(0, 1, 2)], 0]:
            if isinstance(thing, tuple):
                continue
            for call, told in ((tour_room, (LEAN,)), (tour_plan, (LEAN,)), (best_order, (LEAN, (0, 1, 2)))):
                with self.assertRaises(NoTour) as caught:
                    call(*told, thing)
                self.assertEqual(caught.exception.number, -1)

    def test_the_first_that_is_none(self):
        right = (0, 1, 2)
        for thing in oracle.no_keepings():
            for number in range(6):
                tour = (right,) * number + (thing,) + (None, right)[:5 - number]
                for call, told in ((tour_room, (LEAN,)), (tour_plan, (LEAN,)), (best_order, (LEAN, right))):
                    with self.assertRaises(NoTour) as caught:
                        call(*told, tour)
                    self.assertEqual(caught.exception.number, number)

    def test_kinds_of_what_is_returned(self):
        self.assertEqual([type(found) for found in (
            helpers(V, (0, 2, 4), (1, 2, 5)), weighers(V, (0, 2, 4), (1, 2, 5)), tour_plan(V, ((0, 2, 4), (1, 2, 5))),
            best_order(V, (0, 2, 4), ((1, 2, 5),)), tour_room(V, ((0, 2, 4),)))], [tuple] * 4 + [int])


if __name__ == "__main__":
    unittest.main()
