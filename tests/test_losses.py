"""Points 12.1 to 12.4: planes, safety, harms, mending, webs of powers."""

import unittest
from itertools import combinations, product

from lightfirst.errors import BadWeb, NoKeeping, NoLot, NoNumber, NoPlane, TooMany
from lightfirst.losses import (harm_of, harms, is_harm, is_plane, is_safe, lightest_safe, plane, powers, room_to_mend,
                               safety)
from lightfirst.room import least_room
from lightfirst.webs import Web
from tests import oracle

W = powers(3, 2, 4, 5)
LEAN = Web(2, 3, (((1, 0, 0), 4), ((0, 1, 0), 5), ((0, 0, 1), 6)))
WEBS = oracle.random_webs(121, 21)


def planes_of(web, lot):
    """All planes of a lot, by the very words."""
    return [values for values in oracle.all_sums(web.prime, web.many)
            if all(sum(a * b for a, b in zip(values, held)) % web.prime == 0 for held in oracle.sums_of(web, lot))]


def less(lot, gone):
    """The lot without some pieces."""
    return tuple(k for k in lot if k not in gone)


def is_safe_by_words(web, lot, k):
    """Whether a lot is k-safe, by the very words."""
    return all(oracle.is_keeping(web, less(lot, gone)) for gone in oracle.subsets(lot) if len(gone) <= k)


def harms_by_words(web, lot):
    """All harms of a lot, by the very words, fewest first."""
    return [gone for gone in oracle.subsets(lot)
            if not oracle.is_keeping(web, less(lot, gone))
            and all(oracle.is_keeping(web, less(lot, less(gone, (k,)))) for k in gone)]


class SmallWebs(unittest.TestCase):
    """Everything of small webs, against the very words."""

    def test_planes(self):
        for web in WEBS:
            for lot in oracle.lots(web):
                right = planes_of(web, lot)
                found = plane(web, lot)
                self.assertIs(found is None, oracle.is_keeping(web, lot))
                self.assertIs(found is None, right == [])
                if found is not None:
                    self.assertIn(found, right)
                for values in product(range(web.prime), repeat=web.many):
                    self.assertIs(is_plane(web, lot, values), values in right)

    def test_safety_and_is_safe(self):
        for web in WEBS:
            for lot in oracle.lots(web):
                right = [k for k in range(13) if is_safe_by_words(web, lot, k)]
                self.assertEqual(safety(web, lot), max(right, default=-1))
                for k in range(13):
                    self.assertIs(is_safe(web, lot, k), k in right)

    def test_harms(self):
        for web in WEBS:
            every = oracle.lots(web)
            for lot in every:
                right = harms_by_words(web, lot)
                self.assertEqual(harms(web, lot), right)
                for thing in every:
                    self.assertIs(is_harm(web, lot, thing), thing in right)

    def test_harm_of_and_fact_of_harms(self):
        for web in WEBS:
            for lot in oracle.lots(web):
                found = harms(web, lot)
                for k in range(len(lot) + 1):
                    self.assertIs(is_safe(web, lot, k), all(len(harm) > k for harm in found))
                shown = {harm_of(web, lot, values) for values in oracle.all_sums(web.prime, web.many)}
                for values in oracle.all_sums(web.prime, web.many):
                    right = tuple(k for k in lot if sum(
                        a * b for a, b in zip(values, web.pieces[k][0])) % web.prime != 0)
                    self.assertEqual(harm_of(web, lot, values), right)
                    self.assertTrue(any(set(harm) <= set(right) for harm in found))
                if oracle.is_keeping(web, lot):
                    self.assertTrue(all(harm in shown for harm in found))

    def test_lightest_safe(self):
        for web in WEBS:
            every = oracle.lots(web)
            for k in range(13):
                safe = [lot for lot in every if is_safe_by_words(web, lot, k)]
                least = min([oracle.size(web, lot) for lot in safe], default=None)
                right = [lot for lot in safe if oracle.size(web, lot) == least]
                self.assertEqual(lightest_safe(web, k), right[0] if right else None)

    def test_room_to_mend(self):
        for web in WEBS[:7]:
            every = oracle.lots(web)
            goals = oracle.keepings(web)
            for lot in every:
                for at, lost in enumerate(every):
                    goal = goals[at % len(goals)]
                    left = less(lot, lost)
                    right = least_room(web, left, goal) if oracle.is_keeping(web, left) else None
                    self.assertEqual(room_to_mend(web, lot, lost, goal), right)

    def test_powers_and_fact_of_powers(self):
        for prime in (2, 3, 5):
            for many in range(1, prime + 2):
                for copies in range(many, prime + 2):
                    self.check_powers(powers(prime, many, copies, 7), prime, many, copies)

    def check_powers(self, web, prime, many, copies):
        right = [tuple(a ** k % prime for k in range(many)) for a in range(prime)] + [(0,) * (many - 1) + (1,)]
        self.assertTrue(web == Web(prime, many, tuple((values, 7) for values in right[:copies])))
        for lot in combinations(range(copies), many):
            self.assertIs(oracle.is_keeping(web, lot), True)
        for lot in oracle.lots(web):
            self.assertEqual(safety(web, lot), max(-1, len(lot) - many))


class Edges(unittest.TestCase):

    def test_copies_at_both_bounds(self):
        for prime, most in ((2, 3), (3, 4), (37, 38), (41, 40), (251, 40)):
            for many in (1, 2, min(most, 10)):
                for copies in (many, most):
                    self.assertEqual(len(powers(prime, many, copies, 1).pieces), copies)
                for copies in (many - 1, most + 1, 0, -1):
                    self.assertRaises(NoNumber, powers, prime, many, copies, 1)
        self.assertEqual(powers(37, 2, 38, 9).pieces[37], ((0, 1), 9))
        self.assertEqual(powers(2, 1, 3, 9).pieces, (((1,), 9),) * 3)
        for copies in (9, 10, 11):
            self.assertRaises(NoNumber, powers, 2, 10, copies, 1)

    def test_sizes_of_powers(self):
        self.assertEqual([powers(2, 1, 1, size).pieces[0][1] for size in (1, 10 ** 6)], [1, 10 ** 6])
        for size in oracle.many_things() + [0, 10 ** 6 + 1]:
            self.assertRaises(NoNumber, powers, 2, 1, 1, size)

    def test_twelve_and_thirteen_pieces(self):
        web = powers(251, 5, 13, 3)
        every = tuple(range(13))
        for lot in (every[:12], every[1:], every[:5] + every[6:]):
            self.assertEqual(safety(web, lot), 7)
            self.assertEqual(harms(web, lot), list(combinations(lot, 8)))
            self.assertEqual([is_safe(web, lot, k) for k in (0, 7, 8, 12)], [True, True, False, False])
        self.assertEqual(lightest_safe(powers(251, 5, 12, 3), 7), every[:12])
        self.assertIsNone(lightest_safe(powers(251, 5, 12, 3), 8))
        for call in (lambda: safety(web, every), lambda: harms(web, every), lambda: is_safe(web, every, 0),
                     lambda: lightest_safe(web, 0)):
            with self.assertRaises(TooMany) as caught:
                call()
            self.assertEqual(caught.exception.most, 12)
        many = Web(2, 1, (((1,), 1),) * 40)
        self.assertRaises(TooMany, safety, many, tuple(range(40)))
        self.assertEqual(safety(many, tuple(range(28, 40))), 11)
        # Where TooMany is not named, a lot may be as great as it will.
        self.assertIs(is_harm(many, tuple(range(40)), tuple(range(40))), True)
        self.assertEqual(harm_of(many, tuple(range(40)), (1,)), tuple(range(40)))
        self.assertEqual(room_to_mend(many, tuple(range(40)), tuple(range(39)), (0,)), 2)

    def test_no_pieces_and_no_keeping(self):
        for many in (1, 10):
            web = Web(251, many, ())
            self.assertEqual((safety(web, ()), harms(web, ()), lightest_safe(web, 0)), (-1, [()], None))
            self.assertIs(is_harm(web, (), ()), True)
            self.assertIs(is_safe(web, (), 0), False)
            self.assertIs(is_plane(web, (), plane(web, ())), True)
            self.assertIsNone(room_to_mend(W, (), (), (0, 1)))
        self.assertEqual((safety(W, (0,)), harms(W, (0,)), is_harm(W, (0,), (0,))), (-1, [()], False))

    def test_ten_versions_and_forty_pieces(self):
        web = oracle.powers_web(251, 10, 40, lambda a: 1)
        for lot in ((), (5,), tuple(range(9)), tuple(range(31, 40))):
            self.assertIs(is_plane(web, lot, plane(web, lot)), True)
        self.assertIsNone(plane(web, tuple(range(40))))
        self.assertIsNone(plane(web, tuple(range(30, 40))))
        values = plane(web, tuple(range(9)))
        self.assertEqual(harm_of(web, tuple(range(40)), values), tuple(range(9, 40)))
        self.assertIs(is_harm(web, tuple(range(40)), tuple(range(9, 40))), True)

    def test_first_of_least_size(self):
        web = Web(2, 1, (((1,), 2), ((1,), 1), ((1,), 1), ((1,), 2)))
        self.assertEqual([lightest_safe(web, k) for k in range(5)], [(1,), (1, 2), (0, 1, 2), (0, 1, 2, 3), None])
        web = Web(2, 2, (((1, 0), 1), ((0, 1), 1), ((1, 1), 1), ((1, 0), 1)))
        self.assertEqual(lightest_safe(web, 0), (0, 1))


class WrongThings(unittest.TestCase):
    """What is raised, in which order, and what is judged."""

    def wrong_lots(self):
        return [x for x in oracle.junk() if x != ()] + [0, 1, (3,), (0, 3), (1, 0), (0, 0), [0, 1], (0, 1, 2, 3),
                                                        tuple(range(19999)), (False, 1), (0, True)]

    def test_no_lot(self):
        for thing in self.wrong_lots():
            for call, more in ((plane, 0), (is_plane, 1), (safety, 0), (harms, 0), (is_harm, 1), (harm_of, 1),
                               (is_safe, 1), (room_to_mend, 2)):
                self.assertRaises(NoLot, call, LEAN, thing, *[None] * more)
            self.assertRaises(NoLot, room_to_mend, LEAN, (0,), thing, None)
            self.assertRaises(NoLot, room_to_mend, LEAN, (0,), thing, (0, 1, 2))
            self.assertRaises(NoLot, room_to_mend, LEAN, thing, (), (0, 1, 2))
            self.assertRaises(NoLot, is_plane, LEAN, thing, (1, 0, 0))
            self.assertRaises(NoLot, is_harm, LEAN, thing, ())
            self.assertRaises(NoLot, is_safe, LEAN, thing, 0)
            self.assertRaises(NoLot, harm_of, LEAN, thing, (1, 0, 0))
            self.assertIs(is_harm(LEAN, (0, 1, 2), thing), False)

    def test_no_number(self):
        web = powers(251, 2, 13, 1)
        for thing in oracle.many_things() + [13, 10 ** 60 - 1]:
            self.assertRaises(NoNumber, is_safe, web, tuple(range(13)), thing)
            self.assertRaises(NoNumber, lightest_safe, web, thing)
            self.assertRaises(NoLot, is_safe, web, (1, 0), thing)

    def test_no_plane(self):
        for thing in oracle.junk() + [0, 1, (1,), (0, 0), (1, 1, 1), [2, 1], (3, 1), (-1, 1), (True, 1), (1, "1")]:
            self.assertRaises(NoPlane, harm_of, W, (0, 1), thing)
            self.assertIs(is_plane(W, (), thing), False)

    def test_what_is_raised_for_the_goal(self):
        for thing in oracle.no_keepings():
            self.assertRaises(NoKeeping, room_to_mend, LEAN, (0, 1, 2), (), thing)
            # Also if what is left is no keeping.
            self.assertRaises(NoKeeping, room_to_mend, LEAN, (0, 1, 2), (1,), thing)
        self.assertIsNone(room_to_mend(LEAN, (0, 1, 2), (1,), (0, 1, 2)))
        self.assertEqual(room_to_mend(LEAN, (0, 1, 2), (), (0, 1, 2)), 15)
        # What is lost need not be of the lot.
        self.assertEqual(room_to_mend(W, (0, 1), (2, 3), (0, 1)), 10)

    def test_wrong_powers(self):
        for thing in oracle.no_integers() + [-1, 0, 1, 4, 252, 10 ** 59]:
            self.check_bad("prime", thing, None, None, None)
        for thing in oracle.no_integers() + [-1, 0, 11, 10 ** 59]:
            self.check_bad("many", 5, thing, None, None)
        for thing in oracle.no_integers() + [-1, 0, 7, 10 ** 59]:
            self.assertRaises(NoNumber, powers, 5, 1, thing, None)

    def check_bad(self, part, *told):
        with self.assertRaises(BadWeb) as caught:
            powers(*told)
        self.assertEqual(caught.exception.part, part)

    def test_judges(self):
        self.assertIs(is_plane(W, (1,), (1, 2)), True)
        self.assertIs(is_plane(W, (1,), (2, 1)), True)
        self.assertIs(is_plane(W, (1,), (1, 1)), False)
        self.assertIs(is_harm(W, (0, 1, 2), (0, 1)), True)
        for thing in ((0, 1, 2), (0,), (1, 3), [0, 1], (1, 0), (False, 1)):
            self.assertIs(is_harm(W, (0, 1, 2), thing), False)

    def test_results_are_new_and_of_their_kinds(self):
        told = harms(W, (0, 1, 2))
        told.append(None)
        self.assertEqual(harms(W, (0, 1, 2)), [(0, 1), (0, 2), (1, 2)])
        self.assertEqual([type(x) for x in (plane(W, (0,)), safety(W, (0, 1)), told, harm_of(W, (0, 1), (1, 1)),
                                            lightest_safe(W, 0), room_to_mend(W, (0, 1), (), (0, 1)), W)],
                         [tuple, int, list, tuple, tuple, int, Web])


class Examples(unittest.TestCase):

    def test_e12(self):
        w = powers(3, 2, 4, 5)
        self.assertEqual((safety(w, (0, 1, 2, 3)), harms(w, (0, 1, 2)), harm_of(w, (0, 1, 2), (2, 1)),
                          lightest_safe(w, 1), room_to_mend(w, (0, 1, 2), (1,), (0, 3))),
                         (2, [(0, 1), (0, 2), (1, 2)], (0, 2), (0, 1, 2), 15))


if __name__ == "__main__":
    unittest.main()
