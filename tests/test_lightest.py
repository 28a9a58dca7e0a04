"""Points 4.1 and 4.2: lightest keepings, their papers, pieces that are put in."""

import unittest
from itertools import combinations, permutations

from lightfirst.errors import NoKeeping, NoLot, NoPiece, NotAlone
from lightfirst.lightest import is_light_paper, is_lightest, least_size, light_paper, lightest, put_all, put_in
from lightfirst.webs import Web
from tests import oracle

EXAMPLE = Web(5, 2, (((1, 0), 10), ((0, 1), 10), ((1, 4), 3)))
LEAN = Web(2, 3, (((1, 0, 0), 4), ((0, 1, 0), 5), ((0, 0, 1), 6)))
WEBS = oracle.random_webs(4, 28)


def lean_ones(web, lot):
    """All lean keepings in a lot."""
    return [held for held in combinations(lot, web.many) if oracle.is_keeping(web, held)]


def rings_in(web, keeping, piece):
    """All rings in a keeping and a piece that have the piece."""
    both = tuple(sorted(keeping + (piece,)))
    return [lot for lot in oracle.subsets(both) if piece in lot and oracle.is_ring(web, lot)]


class SmallWebs(unittest.TestCase):
    """Everything of small webs, against the very words."""

    def test_lightest_and_least_size(self):
        for web in WEBS:
            for lot in oracle.keepings(web):
                sizes = [oracle.size(web, held) for held in oracle.subsets(lot) if oracle.is_keeping(web, held)]
                self.assertEqual(lightest(web, lot), oracle.greedy(web, lot))
                self.assertEqual(least_size(web, lot), min(sizes))
                self.assertEqual(oracle.size(web, lightest(web, lot)), min(sizes))

    def test_is_lightest(self):
        for web in WEBS[:14]:
            every = oracle.lots(web)
            for lot in oracle.keepings(web):
                held = lean_ones(web, lot)
                least = min(oracle.size(web, one) for one in held)
                for thing in every:
                    self.assertIs(is_lightest(web, lot, thing), thing in held and oracle.size(web, thing) == least)

    def test_step_of_lightest_ones(self):
        for web in WEBS[:21]:
            for lot in oracle.keepings(web):
                least = min(oracle.size(web, one) for one in lean_ones(web, lot))
                for held in lean_ones(web, lot):
                    self.check_exchange(web, lot, held, oracle.size(web, held) == least)

    def check_exchange(self, web, lot, held, is_least):
        sizes = [piece[1] for piece in web.pieces]
        by_rings = all(sizes[k] >= max(sizes[other] for other in rings_in(web, held, k)[0])
                       for k in lot if k not in held)
        by_cuts = True
        for k in held:
            rest = tuple(other for other in held if other != k)
            cut = [other for other in lot if oracle.is_keeping(web, tuple(sorted(set(rest) | {other})))]
            by_cuts = by_cuts and sizes[k] == min(sizes[other] for other in cut)
        self.assertEqual((by_rings, by_cuts), (is_least, is_least))

    def test_light_paper(self):
        for web in WEBS[:21]:
            for lot in oracle.keepings(web):
                least = min(oracle.size(web, one) for one in lean_ones(web, lot))
                for held in lean_ones(web, lot):
                    paper = light_paper(web, lot, held)
                    right = {k: rings_in(web, held, k)[0] for k in lot if k not in held}
                    if oracle.size(web, held) == least:
                        self.assertEqual(paper, right)
                    else:
                        self.assertIsNone(paper)
                    self.assertIs(is_light_paper(web, lot, held, right), paper is not None)

    def test_is_light_paper_of_one_piece(self):
        for web in WEBS[:14]:
            for held in lean_ones(web, tuple(range(len(web.pieces)))):
                for k in range(len(web.pieces)):
                    if k in held:
                        continue
                    lot = tuple(sorted(held + (k,)))
                    for thing in oracle.lots(web):
                        right = thing in rings_in(web, held, k) and all(
                            web.pieces[other][1] <= web.pieces[k][1] for other in thing)
                        self.assertIs(is_light_paper(web, lot, held, {k: thing}), right)

    def test_put_in(self):
        for web in WEBS:
            for lot in oracle.keepings(web):
                for piece in range(len(web.pieces)):
                    if piece in lot:
                        continue
                    before = oracle.greedy(web, lot)
                    after = oracle.greedy(web, lot + (piece,))
                    gone = [k for k in before if k not in after]
                    self.assertEqual(put_in(web, lot, piece), (after, gone[0] if gone else None))
                    # The step of putting in.
                    ring = rings_in(web, before, piece)[0]
                    last = oracle.by_order(web, ring)[-1]
                    self.assertEqual(after, tuple(sorted(set(before) ^ {piece, last} if last != piece else before)))

    def test_put_all(self):
        for web in WEBS[:14]:
            for lot in oracle.keepings(web):
                others = tuple(k for k in range(len(web.pieces)) if k not in lot)
                for pieces in oracle.subsets(others):
                    held, right = lot, []
                    for piece in oracle.by_order(web, pieces):
                        right.append(put_in(web, held, piece)[1])
                        held = tuple(sorted(held + (piece,)))
                    self.assertEqual(put_all(web, lot, pieces), right)


class Edges(unittest.TestCase):

    def test_one_size_goes_by_number(self):
        web = Web(2, 1, (((1,), 7), ((1,), 3), ((1,), 3), ((1,), 3)))
        self.assertEqual([lightest(web, lot) for lot in ((0, 1, 2, 3), (0, 2, 3), (2, 3), (0,))],
                         [(1,), (2,), (2,), (0,)])
        self.assertEqual([is_lightest(web, (0, 1, 2), (k,)) for k in range(4)], [False, True, True, False])
        self.assertEqual(light_paper(web, (0, 1, 2), (2,)), {0: (0, 2), 1: (1, 2)})
        self.assertEqual(put_in(web, (2,), 1), ((1,), 2))
        self.assertEqual(put_in(web, (1,), 2), ((1,), None))

    def test_put_all_by_the_order_of_pieces(self):
        web = Web(2, 1, (((1,), 9), ((1,), 8), ((1,), 7), ((1,), 7), ((1,), 6)))
        self.assertEqual(put_all(web, (0,), (1, 2, 3, 4)), [0, None, None, None])
        self.assertEqual(put_all(web, (0,), (1, 2)), [0, None])
        self.assertEqual(put_all(web, (2,), (3, 4)), [2, None])
        self.assertEqual(put_all(web, (0,), ()), [])

    def test_forty_pieces_and_ten_versions(self):
        web = oracle.powers_web(251, 10, 40, lambda a: 10 ** 6 - a // 2)
        every = tuple(range(40))
        self.assertEqual(lightest(web, every), tuple(range(30, 40)))
        self.assertEqual(least_size(web, every), sum(web.pieces[k][1] for k in range(30, 40)))
        self.assertEqual(lightest(web, tuple(range(11))), (0,) + tuple(range(2, 11)))
        paper = light_paper(web, every, tuple(range(30, 40)))
        self.assertEqual(paper, {k: (k,) + tuple(range(30, 40)) for k in range(30)})
        self.assertIs(is_light_paper(web, every, tuple(range(30, 40)), paper), True)
        self.assertIsNone(light_paper(web, every, tuple(range(29, 39))))
        self.assertEqual(put_in(web, tuple(range(10)), 39), ((0,) + tuple(range(2, 10)) + (39,), 1))

    def test_one_version_and_no_left_out_piece(self):
        web = Web(251, 1, (((250,), 10 ** 6),))
        self.assertEqual((lightest(web, (0,)), least_size(web, (0,)), light_paper(web, (0,), (0,))),
                         ((0,), 10 ** 6, {}))
        self.assertIs(is_light_paper(web, (0,), (0,), {}), True)
        self.assertIs(is_light_paper(web, (0,), (0,), {0: (0,)}), False)
        for many in (1, 10):
            for lot in ((), (0,)):
                self.assertRaises(NoKeeping, lightest, Web(2, many, ()), lot)


class WrongThings(unittest.TestCase):
    """What is raised, in which order, and what is judged."""

    def test_no_keeping(self):
        for thing in oracle.no_keepings():
            self.assertRaises(NoKeeping, lightest, LEAN, thing)
            self.assertRaises(NoKeeping, least_size, LEAN, thing)
            self.assertRaises(NoKeeping, is_lightest, LEAN, thing, None)
            self.assertRaises(NoKeeping, light_paper, LEAN, thing, None)
            self.assertRaises(NoKeeping, light_paper, LEAN, thing, (0, 1, 2))
            self.assertRaises(NoKeeping, is_light_paper, LEAN, thing, (0, 1, 2), {})
            self.assertRaises(NoKeeping, is_lightest, LEAN, thing, (0, 1, 2))
            self.assertRaises(NoKeeping, put_all, LEAN, thing, ())
            self.assertRaises(NoKeeping, light_paper, LEAN, (0, 1, 2), thing)
            self.assertRaises(NoKeeping, is_light_paper, LEAN, thing, None, None)
            self.assertRaises(NoKeeping, is_light_paper, LEAN, (0, 1, 2), thing, {})
            self.assertRaises(NoKeeping, put_in, LEAN, thing, None)
            self.assertRaises(NoKeeping, put_all, LEAN, thing, None)
            self.assertIs(is_lightest(LEAN, (0, 1, 2), thing), False)

    def test_no_keeping_in_it_then_not_alone(self):
        for call, more in ((light_paper, ()), (is_light_paper, ({},))):
            self.assertRaises(NoKeeping, call, EXAMPLE, (0, 1), (0, 2), *more)
            self.assertRaises(NoKeeping, call, EXAMPLE, (0, 1), (0, 1, 2), *more)
            self.assertRaises(NotAlone, call, EXAMPLE, (0, 1, 2), (0, 1, 2), *more)
            self.assertRaises(NoKeeping, call, EXAMPLE, (0,), (0, 1, 2), *more)

    def test_no_piece(self):
        for thing in oracle.no_integers() + [-1, 3, 0, 2, 10 ** 59, (1,)]:
            self.assertRaises(NoPiece, put_in, EXAMPLE, (0, 2), thing)
        for piece in (0, 1, 2):
            self.assertRaises(NoPiece, put_in, EXAMPLE, (0, 1, 2), piece)

    def test_no_lot(self):
        for thing in oracle.junk() + [0, 1, (0,), (2,), (1, 2), (0, 1, 2), (1, 1), (3,), [1]]:
            self.assertRaises(NoLot, put_all, EXAMPLE, (0, 2), thing)
        self.assertEqual(put_all(EXAMPLE, (0, 2), (1,)), [None])

    def test_is_light_paper_judges_anything(self):
        right = {1: (0, 1, 2)}
        self.assertIs(is_light_paper(EXAMPLE, (0, 1, 2), (0, 2), right), True)
        wrong = oracle.junk() + [0, {}, {1: (0, 2)}, {1: [0, 1, 2]}, {1: (2, 1, 0)}, {0: (0, 1, 2)}, {1: None},
                                 {1: (0, 1, 2), 0: (0, 1, 2)}, {"1": (0, 1, 2)}, {(1,): (0, 1, 2)}, {1: (False, 1, 2)},
                                 [(1, (0, 1, 2))], ((1, (0, 1, 2)),), {1: {1: (0, 1, 2)}}, {None: (0, 1, 2)},
                                 {b"1": (0, 1, 2)}, {1: oracle.deep(tuple, 39)}, {k: (0, 1, 2) for k in range(4000)}]
        for thing in wrong:
            self.assertIs(is_light_paper(EXAMPLE, (0, 1, 2), (0, 2), thing), False)
        self.assertIs(is_light_paper(EXAMPLE, (0, 2), (0, 2), {}), True)
        # With the greater piece kept, the ring does not show it.
        self.assertIs(is_light_paper(EXAMPLE, (0, 1, 2), (0, 1), {2: (0, 1, 2)}), False)
        # A ring that has pieces beside those of the keeping shows nothing either.
        web = Web(2, 1, (((1,), 1), ((1,), 2), ((1,), 2)))
        self.assertIs(is_light_paper(web, (0, 1, 2), (0,), {1: (1, 2), 2: (0, 2)}), False)
        self.assertIs(is_light_paper(web, (0, 1, 2), (0,), {1: (0, 1), 2: (0, 2)}), True)

    def test_is_lightest_judges_anything(self):
        for thing in oracle.junk() + [0, (0, 1), (0, 1, 2), [0, 2], (2, 0), (False, 2), (0,), ()]:
            self.assertIs(is_lightest(EXAMPLE, (0, 1, 2), thing), False)
        self.assertEqual([is_lightest(EXAMPLE, (0, 1, 2), lot) for lot in ((0, 2), (1, 2))], [True, True])
        self.assertIs(is_lightest(EXAMPLE, (0, 1), (0, 2)), False)
        self.assertIs(is_lightest(EXAMPLE, (0, 1), (0, 1)), True)

    def test_results_are_new_and_of_their_kinds(self):
        paper = light_paper(EXAMPLE, (0, 1, 2), (0, 2))
        paper[0] = None
        self.assertEqual(light_paper(EXAMPLE, (0, 1, 2), (0, 2)), {1: (0, 1, 2)})
        told = put_all(EXAMPLE, (0, 2), (1,))
        told.append(5)
        self.assertEqual(put_all(EXAMPLE, (0, 2), (1,)), [None])
        self.assertEqual([type(x) for x in (lightest(EXAMPLE, (0, 1)), least_size(EXAMPLE, (0, 1)), paper, told,
                                            put_in(EXAMPLE, (0, 1), 2))], [tuple, int, dict, list, tuple])


class Orders(unittest.TestCase):

    def test_pieces_of_one_size_in_any_order_of_numbers(self):
        for order in permutations(((1, 0), (0, 1), (1, 1))):
            web = Web(2, 2, tuple((values, 4) for values in order))
            self.assertEqual(lightest(web, (0, 1, 2)), (0, 1))
            self.assertEqual(put_in(web, (1, 2), 0), ((0, 1), 2))


class Examples(unittest.TestCase):

    def test_e04_what_is_built(self):
        w = EXAMPLE
        self.assertEqual((lightest(w, (0, 1, 2)), light_paper(w, (0, 1, 2), (0, 2))), ((0, 2), {1: (0, 1, 2)}))


if __name__ == "__main__":
    unittest.main()
