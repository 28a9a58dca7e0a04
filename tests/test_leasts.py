"""Points 4.3 and 4.4: all lightest keepings, how far sizes can go, and exchanges."""

import unittest
from itertools import combinations
from math import comb
from random import Random

from lightfirst.errors import NoKeeping, NoLot, NoPiece, NotAlone, TooMany
from lightfirst.leasts import exchanges, in_every, in_some, leasts, lightest_with, may_grow, must_shrink
from lightfirst.lightest import lightest
from lightfirst.webs import Web
from tests import oracle

EXAMPLE = Web(5, 2, (((1, 0), 10), ((0, 1), 10), ((1, 4), 3)))
LEAN = Web(2, 3, (((1, 0, 0), 4), ((0, 1, 0), 5), ((0, 0, 1), 6)))
WEBS = oracle.random_webs(43, 21)


def lean_ones(web, lot):
    """All lean keepings in a lot."""
    return [held for held in combinations(lot, web.many) if oracle.is_keeping(web, held)]


def of_least_size(web, lot):
    """All lean keepings of least size in a lot."""
    held = lean_ones(web, lot)
    least = min(oracle.size(web, one) for one in held)
    return [one for one in held if oracle.size(web, one) == least]


def resized(web, piece, size):
    """The web with another size of a piece."""
    pieces = list(web.pieces)
    pieces[piece] = (pieces[piece][0], size)
    return Web(web.prime, web.many, tuple(pieces))


class SmallWebs(unittest.TestCase):
    """Everything of small webs, against a listing of all."""

    def test_leasts_in_every_in_some(self):
        for web in WEBS:
            for lot in oracle.keepings(web):
                right = of_least_size(web, lot)
                self.assertEqual(leasts(web, lot), right)
                self.assertEqual(in_every(web, lot), tuple(k for k in lot if all(k in held for held in right)))
                self.assertEqual(in_some(web, lot), tuple(k for k in lot if any(k in held for held in right)))

    def test_may_grow(self):
        for web in WEBS[:14]:
            greatest = max(size for _, size in web.pieces)
            for lot in oracle.keepings(web):
                kept = oracle.greedy(web, lot)
                for piece in kept:
                    right = None
                    # Sizes tried one by one; what holds up to here holds without end, as no other piece is greater.
                    for more in range(greatest + 2):
                        grown = resized(web, piece, web.pieces[piece][1] + more)
                        if kept not in of_least_size(grown, lot):
                            right = more - 1
                            break
                    self.assertEqual(may_grow(web, lot, piece), right)

    def test_must_shrink(self):
        for web in WEBS[:14]:
            for lot in oracle.keepings(web):
                for piece in lot:
                    if piece in oracle.greedy(web, lot):
                        continue
                    size = web.pieces[piece][1]
                    right = [less for less in range(size) if any(
                        piece in held for held in of_least_size(resized(web, piece, size - less), lot))]
                    self.assertEqual(must_shrink(web, lot, piece), right[0])

    def test_lightest_with(self):
        for web in WEBS[:14]:
            for lot in oracle.keepings(web):
                inside = [held for held in oracle.subsets(lot) if oracle.is_keeping(web, held)]
                for told in oracle.subsets(lot):
                    found = lightest_with(web, lot, told)
                    self.assertEqual(found, oracle.greedy(web, lot, told))
                    self.assertEqual(oracle.size(web, found),
                                     min(oracle.size(web, held) for held in inside if set(told) <= set(held)))

    def test_exchanges(self):
        for web in WEBS:
            held = lean_ones(web, tuple(range(len(web.pieces))))
            for one in held:
                for other in held:
                    self.check_exchanges(web, one, other)

    def check_exchanges(self, web, one, other):
        kept, right = one, []
        for piece in oracle.by_order(web, set(other) - set(one)):
            both = tuple(sorted(kept + (piece,)))
            closed = [lot for lot in oracle.subsets(both) if oracle.is_ring(web, lot)]
            self.assertEqual(len(closed), 1)
            gone = [k for k in oracle.by_order(web, closed[0]) if k not in other]
            self.assertNotEqual(gone, [])
            right.append((piece, gone[-1]))
            kept = tuple(sorted(set(both) - {gone[-1]}))
            self.assertTrue(oracle.is_keeping(web, kept) and oracle.is_lean(web, kept))
        self.assertEqual((exchanges(web, one, other), kept), (tuple(right), other))


class Edges(unittest.TestCase):

    def test_pieces_that_may_grow_without_end(self):
        self.assertEqual([may_grow(LEAN, (0, 1, 2), k) for k in range(3)], [None] * 3)
        web = Web(2, 2, (((1, 0), 1), ((0, 1), 10 ** 6), ((0, 1), 5), ((0, 1), 10 ** 6)))
        self.assertEqual((may_grow(web, (0, 1, 2, 3), 0), may_grow(web, (0, 1, 2, 3), 2)), (None, 10 ** 6 - 5))
        self.assertEqual((may_grow(web, (0, 1, 3), 1), in_every(web, (0, 1, 3)), in_some(web, (0, 1, 3))),
                         (0, (0,), (0, 1, 3)))

    def test_pieces_that_need_not_shrink(self):
        web = Web(2, 1, (((1,), 7), ((1,), 3), ((1,), 3), ((1,), 4)))
        self.assertEqual([must_shrink(web, (0, 1, 2, 3), k) for k in (0, 2, 3)], [4, 0, 1])
        self.assertEqual(leasts(web, (0, 1, 2, 3)), [(1,), (2,)])
        self.assertEqual((in_every(web, (0, 1, 2, 3)), in_some(web, (0, 1, 2, 3))), ((), (1, 2)))

    def test_only_the_lot_counts(self):
        self.assertEqual((may_grow(EXAMPLE, (0, 1), 0), leasts(EXAMPLE, (0, 1)), in_every(EXAMPLE, (0, 1))),
                         (None, [(0, 1)], (0, 1)))

    def test_told_pieces_that_are_made_of_others(self):
        self.assertEqual(lightest_with(EXAMPLE, (0, 1, 2), (0, 1, 2)), (0, 1, 2))
        self.assertEqual([lightest_with(EXAMPLE, (0, 1, 2), (k,)) for k in range(3)], [(0, 2), (1, 2), (0, 2)])
        self.assertEqual(lightest_with(EXAMPLE, (0, 1, 2), ()), (0, 2))

    def test_no_lots_are_just_as_many_as_the_greatest_number(self):
        self.assertEqual([(n, k) for n in range(41) for k in range(1, 11) if comb(n, k) == 20000], [])

    def test_lots_of_nearly_and_of_more_than_twenty_thousand(self):
        for many, most in ((4, 27), (5, 20), (7, 17), (10, 17)):
            web = oracle.powers_web(251, many, 40, lambda a: 3 if a < 28 else 2)
            self.assertLess(comb(most, many), 20000)
            self.assertEqual(leasts(web, tuple(range(40 - most, 40))), list(combinations(range(28, 40), many)))
            for lot in (tuple(range(39 - most, 40)), tuple(range(40))):
                with self.assertRaises(TooMany) as caught:
                    leasts(web, lot)
                self.assertEqual(caught.exception.most, 20000)

    def test_lots_and_not_webs_are_counted(self):
        web = oracle.powers_web(251, 10, 40, lambda a: 40 - a)
        self.assertEqual(leasts(web, tuple(range(5, 22))), [tuple(range(12, 22))])
        self.assertRaises(TooMany, leasts, web, tuple(range(5, 23)))
        self.assertEqual(leasts(web, tuple(range(30, 40))), [tuple(range(30, 40))])

    def test_forty_pieces(self):
        web = oracle.powers_web(251, 10, 40, lambda a: 1 + a % 7)
        every = tuple(range(40))
        kept = lightest(web, every)
        self.assertEqual((in_every(web, every), in_some(web, every)),
                         (tuple(range(0, 40, 7)), tuple(k for k in every if k % 7 < 2)))
        self.assertEqual([may_grow(web, every, k) for k in kept], [1 - k % 7 for k in kept])
        self.assertEqual([must_shrink(web, every, k) for k in every if k not in kept],
                         [max(0, k % 7 - 1) for k in every if k not in kept])
        chance = Random(4)
        for _ in range(20):
            one, other = tuple(sorted(chance.sample(every, 10))), tuple(sorted(chance.sample(every, 10)))
            pairs = exchanges(web, one, other)
            self.assertEqual([k for k, _ in pairs], list(oracle.by_order(web, set(other) - set(one))))
            self.assertEqual(set(one) - {k for _, k in pairs}, set(one) & set(other))


class WrongThings(unittest.TestCase):
    """What is raised, in which order, and what is judged."""

    def test_no_keeping(self):
        for thing in oracle.no_keepings():
            for call in (in_every, in_some, leasts):
                self.assertRaises(NoKeeping, call, LEAN, thing)
            for call in (may_grow, must_shrink, lightest_with, exchanges):
                self.assertRaises(NoKeeping, call, LEAN, thing, None)
            self.assertRaises(NoKeeping, may_grow, LEAN, thing, 0)
            self.assertRaises(NoKeeping, lightest_with, LEAN, thing, (0,))
            self.assertRaises(NoKeeping, exchanges, LEAN, thing, (0, 1, 2))
            self.assertRaises(NoKeeping, exchanges, LEAN, (0, 1, 2), thing)

    def test_no_piece(self):
        for thing in oracle.no_integers() + [-1, 1, 3, 10 ** 59, (0,)]:
            self.assertRaises(NoPiece, may_grow, EXAMPLE, (0, 1, 2), thing)
        for thing in oracle.no_integers() + [-1, 0, 2, 3, 10 ** 59, (1,)]:
            self.assertRaises(NoPiece, must_shrink, EXAMPLE, (0, 1, 2), thing)
        # Pieces of the web, but not of the lot.
        self.assertRaises(NoPiece, may_grow, EXAMPLE, (0, 1), 2)
        self.assertRaises(NoPiece, must_shrink, EXAMPLE, (0, 1), 2)

    def test_no_lot(self):
        for thing in oracle.junk() + [0, (3,), (1, 0), (0, 0), [0], (False,), (0, True)]:
            self.assertRaises(NoLot, lightest_with, EXAMPLE, (0, 1, 2), thing)
        for told in ((2,), (0, 2), (0, 1, 2)):
            self.assertRaises(NoLot, lightest_with, EXAMPLE, (0, 1), told)

    def test_not_alone_of_the_one_ahead_of_the_other(self):
        self.assertRaises(NotAlone, exchanges, EXAMPLE, (0, 1, 2), None)
        self.assertRaises(NotAlone, exchanges, EXAMPLE, (0, 1, 2), (0, 1))
        self.assertRaises(NotAlone, exchanges, EXAMPLE, (0, 1), (0, 1, 2))
        self.assertRaises(NoKeeping, exchanges, EXAMPLE, (0, 1), (0,))

    def test_results_are_new(self):
        found = leasts(EXAMPLE, (0, 1, 2))
        found.append(None)
        self.assertEqual(leasts(EXAMPLE, (0, 1, 2)), [(0, 2), (1, 2)])

    def test_kinds_of_what_is_returned(self):
        web, lot = EXAMPLE, (0, 1, 2)
        self.assertEqual([type(found) for found in (in_every(web, lot), in_some(web, lot), lightest_with(web, lot, ()),
                                                    leasts(web, lot), leasts(web, lot)[0], exchanges(web, (0, 1),
                                                                                                     (1, 2)),
                                                    exchanges(web, (0, 1), (1, 2))[0], may_grow(web, lot, 2),
                                                    must_shrink(web, lot, 1))],
                         [tuple, tuple, tuple, list, tuple, tuple, tuple, int, int])


if __name__ == "__main__":
    unittest.main()
