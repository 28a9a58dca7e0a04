"""Point 6.3: floors."""

import unittest

from lightfirst.errors import NoKeeping, NoNumber, NoRoom, TooMany
from lightfirst.floors import floor, floors, is_together, sill
from lightfirst.room import least_room
from lightfirst.webs import Web
from tests import oracle

V = Web(3, 3, (((1, 0, 0), 10), ((0, 1, 0), 10), ((2, 1, 0), 3), ((0, 0, 1), 4), ((1, 0, 2), 2), ((0, 1, 2), 2)))
LEAN = Web(2, 3, (((1, 0, 0), 4), ((0, 1, 0), 5), ((0, 0, 1), 6)))
WEBS = oracle.random_webs(65, 14)
GREATEST = 10 ** 9


def every(web):
    """The lot of all pieces."""
    return tuple(range(len(web.pieces)))


def up_to(web, lot, most):
    """The lightest keeping out of a lot and all pieces up to a size."""
    return oracle.greedy(web, [k for k in every(web) if k in lot or web.pieces[k][1] <= most])


def floor_by_words(web, lot, room):
    """The floor, by the very words."""
    sizes = {size for _, size in web.pieces}
    fitting = [most for most in sizes if all(
        t + oracle.size(web, up_to(web, lot, t - 1)) <= room for t in sizes if t <= most)]
    return up_to(web, lot, max(fitting, default=0))


def rooms_of(web):
    """Rooms from the least size of a keeping to beyond all that matters."""
    least = min(oracle.size(web, lot) for lot in oracle.keepings(web))
    return range(least, oracle.size(web, every(web)) + 10)


class SmallWebs(unittest.TestCase):
    """The fact of floors: against a search over all keepings, piece by piece."""

    def test_floor(self):
        for web in WEBS:
            for lot in oracle.keepings(web):
                for room in range(oracle.size(web, lot), oracle.size(web, every(web)) + 9):
                    self.assertEqual(floor(web, lot, room), floor_by_words(web, lot, room))

    def test_together_exactly_if_the_floors_are_the_same(self):
        for web in WEBS[:5]:
            for one in oracle.keepings(web):
                rooms = oracle.rooms_from(web, one, every(web), ())
                for other in oracle.keepings(web):
                    first = max(oracle.size(web, one), oracle.size(web, other))
                    for room in range(first, oracle.size(web, every(web)) + 2, 2):
                        right = rooms[other] <= room
                        self.assertIs(is_together(web, one, other, room), right)
                        self.assertIs(floor(web, one, room) == floor(web, other, room), right)

    def test_together_to_the_very_room(self):
        for web in WEBS:
            keepings = oracle.keepings(web)
            for one in keepings[::3]:
                rooms = oracle.rooms_from(web, one, every(web), ())
                for other in keepings:
                    least = rooms[other]
                    self.assertIs(is_together(web, one, other, least), True)
                    if least > max(oracle.size(web, one), oracle.size(web, other)):
                        self.assertIs(is_together(web, one, other, least - 1), False)

    def test_the_floor_is_together_with_its_keeping_and_the_least(self):
        for web in WEBS[:7]:
            for lot in oracle.keepings(web):
                rooms = oracle.rooms_from(web, lot, every(web), ())
                for room in range(oracle.size(web, lot), oracle.size(web, every(web)) + 2):
                    found = floor(web, lot, room)
                    self.assertLessEqual(rooms[found], room)
                    self.assertEqual(min(oracle.size(web, other) for other in rooms if rooms[other] <= room),
                                     oracle.size(web, found))

    def test_floors(self):
        for web in WEBS:
            for room in rooms_of(web):
                right = {floor_by_words(web, lot, room) for lot in oracle.keepings(web)
                         if oracle.size(web, lot) <= room}
                self.assertEqual(floors(web, room), sorted(right))

    def test_sill(self):
        for web in WEBS:
            lightest = oracle.greedy(web, every(web))
            for lot in oracle.keepings(web):
                fitting = [room for room in range(oracle.size(web, lot), oracle.size(web, every(web)) + 10)
                           if floor_by_words(web, lot, room) == lightest]
                self.assertEqual(sill(web, lot), fitting[0])
                self.assertEqual(sill(web, lot), least_room(web, lot, lightest))
                self.assertEqual(floor(web, lot, sill(web, lot)), lightest)
                if sill(web, lot) > oracle.size(web, lot):
                    self.assertNotEqual(floor(web, lot, sill(web, lot) - 1), lightest)


class Edges(unittest.TestCase):

    def test_rooms_of_nought_and_the_greatest(self):
        for web in WEBS[:5] + [V]:
            lightest = oracle.greedy(web, every(web))
            self.assertEqual((floors(web, 0), floors(web, GREATEST)), ([], [lightest]))
            for lot in oracle.keepings(web):
                self.assertEqual(floor(web, lot, GREATEST), lightest)
                self.assertIs(is_together(web, lot, lightest, GREATEST), True)
                self.assertRaises(NoRoom, floor, web, lot, 0)
                self.assertRaises(NoRoom, is_together, web, lot, lot, 0)

    def test_a_keepings_size_and_one_less(self):
        for lot in oracle.keepings(V):
            size = oracle.size(V, lot)
            self.assertEqual(floor(V, lot, size), floor_by_words(V, lot, size))
            self.assertIs(is_together(V, lot, lot, size), True)
            for call, told in ((floor, (V, lot, size - 1)), (is_together, (V, lot, lot, size - 1))):
                with self.assertRaises(NoRoom) as caught:
                    call(*told)
                self.assertEqual(caught.exception.least, size)

    def test_the_least_sizes_of_keepings(self):
        for web in WEBS:
            least = min(oracle.size(web, lot) for lot in oracle.keepings(web))
            self.assertEqual(floors(web, least - 1), [])
            self.assertNotEqual(floors(web, least), [])

    def test_no_room_of_the_one_ahead_of_the_other(self):
        one, other = (0, 2, 4), (0, 1, 3)
        for pair, least in (((one, other), 15), ((other, one), 24)):
            with self.assertRaises(NoRoom) as caught:
                is_together(V, *pair, 14)
            self.assertEqual(caught.exception.least, least)
        for pair in ((one, other), (other, one)):
            with self.assertRaises(NoRoom) as caught:
                is_together(V, *pair, 20)
            self.assertEqual(caught.exception.least, 24)

    def test_nothing_can_be_written(self):
        web = Web(2, 1, (((1,), 5), ((1,), 5), ((1,), 5)))
        self.assertEqual([floor(web, (2,), room) for room in (5, 9, 10)], [(2,), (2,), (0,)])
        self.assertEqual((sill(web, (2,)), sill(web, (0,)), sill(web, (1, 2))), (10, 5, 10))
        self.assertEqual([floors(web, room) for room in (4, 5, 9, 10)], [[], [(0,), (1,), (2,)], [(0,), (1,), (2,)],
                                                                          [(0,)]])

    def test_lean_webs(self):
        self.assertEqual((floor(LEAN, (0, 1, 2), 15), sill(LEAN, (0, 1, 2)), floors(LEAN, 15)),
                         ((0, 1, 2), 15, [(0, 1, 2)]))

    def test_twelve_and_thirteen_pieces(self):
        web = oracle.powers_web(251, 6, 12, lambda a: 12 - a)
        self.assertEqual(floors(web, GREATEST), [tuple(range(6, 12))])
        # In no more room than the lightest one has, nothing can be written: it is the only keeping.
        self.assertEqual(floors(web, 21), [tuple(range(6, 12))])
        # The next one has no room for even the least piece more.
        self.assertEqual(floors(web, 22), [(5,) + tuple(range(7, 12)), tuple(range(6, 12))])
        web = oracle.powers_web(251, 6, 13, lambda a: 12)
        with self.assertRaises(TooMany) as caught:
            floors(web, 0)
        self.assertEqual(caught.exception.most, 12)

    def test_webs_that_are_no_keepings(self):
        for web in (Web(2, 1, ()), Web(2, 2, (((1, 1), 3),) * 4)):
            self.assertEqual((floors(web, 0), floors(web, GREATEST)), ([], []))

    def test_forty_pieces(self):
        web = oracle.powers_web(251, 10, 40, lambda a: 10 ** 6 - 1000 * a)
        lot = tuple(range(10))
        self.assertEqual(floor(web, lot, oracle.size(web, lot)), lot)
        self.assertEqual(floor(web, lot, GREATEST), tuple(range(30, 40)))
        self.assertEqual(sill(web, lot), oracle.size(web, lot) + 961000)
        self.assertEqual(floor(web, lot, sill(web, lot)), tuple(range(30, 40)))
        self.assertEqual(floor(web, lot, sill(web, lot) - 1), lot)


class WrongThings(unittest.TestCase):
    """What is raised, in which order, and what is judged."""

    def test_no_keeping(self):
        for thing in oracle.no_keepings():
            self.assertRaises(NoKeeping, sill, LEAN, thing)
            self.assertRaises(NoKeeping, floor, LEAN, thing, None)
            self.assertRaises(NoKeeping, floor, LEAN, thing, 15)
            self.assertRaises(NoKeeping, is_together, LEAN, thing, None, None)
            self.assertRaises(NoKeeping, is_together, LEAN, (0, 1, 2), thing, None)
            self.assertRaises(NoKeeping, is_together, LEAN, (0, 1, 2), thing, 0)

    def test_no_number(self):
        for thing in oracle.many_things() + [GREATEST + 1, 10 ** 60 - 1]:
            self.assertRaises(NoNumber, floor, LEAN, (0, 1, 2), thing)
            self.assertRaises(NoNumber, is_together, LEAN, (0, 1, 2), (0, 1, 2), thing)
            self.assertRaises(NoNumber, floors, LEAN, thing)
            self.assertRaises(NoNumber, floors, oracle.powers_web(251, 6, 13, lambda a: 12), thing)

    def test_results_are_new(self):
        found = floors(LEAN, 15)
        found.append(None)
        self.assertEqual(floors(LEAN, 15), [(0, 1, 2)])

    def test_kinds_of_what_is_returned(self):
        self.assertEqual([type(found) for found in (floor(V, (0, 2, 4), 17), floors(V, 17), floors(V, 17)[0],
                                                    sill(V, (0, 2, 4)))], [tuple, list, tuple, int])


if __name__ == "__main__":
    unittest.main()
