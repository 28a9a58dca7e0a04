"""Point 3.1: rings."""

import unittest
from itertools import combinations

from lightfirst.errors import NoLot, NoPiece, NoRing, NotAlone, TooMany
from lightfirst.rings import all_rings, is_ring, ring, ring_values
from lightfirst.webs import Web, is_lean
from tests import oracle

EXAMPLE = Web(5, 2, (((1, 0), 10), ((0, 1), 10), ((1, 4), 3)))


def lots_of(web):
    """All lots of a web."""
    return oracle.subsets(tuple(range(len(web.pieces))))


class SmallWebs(unittest.TestCase):
    """Everything of small webs, against the very words."""

    def test_is_ring_and_all_rings(self):
        for web in oracle.small_webs():
            right = [lot for lot in lots_of(web) if oracle.is_ring(web, lot)]
            self.assertEqual(all_rings(web), right)
            for lot in lots_of(web):
                self.assertIs(is_ring(web, lot), lot in right)

    def test_ring_values(self):
        for web in oracle.small_webs():
            for lot in lots_of(web):
                if not oracle.is_ring(web, lot):
                    self.assertRaises(NoRing, ring_values, web, lot)
                    continue
                sums = oracle.sums_of(web, lot)
                fitting = [times for times in oracle.ways(web.prime, sums, (0,) * web.many)
                           if times[0] == 1 and all(times)]
                self.assertEqual([ring_values(web, lot)], fitting)

    def test_step_of_rings(self):
        for web in oracle.small_webs():
            rings = [lot for lot in lots_of(web) if oracle.is_ring(web, lot)]
            for lot in lots_of(web):
                for piece in range(len(web.pieces)):
                    if piece in lot or not oracle.is_lean(web, lot):
                        continue
                    self.check_ring(web, rings, lot, piece)

    def check_ring(self, web, rings, lot, piece):
        both = tuple(sorted(lot + (piece,)))
        inside = [told for told in rings if set(told) <= set(both)]
        if oracle.is_lean(web, both):
            self.assertEqual((ring(web, lot, piece), inside), (None, []))
            return
        self.assertEqual([ring(web, lot, piece)], inside)
        left_out = [k for k in both if oracle.is_lean(web, tuple(other for other in both if other != k))]
        self.assertEqual(tuple(left_out), ring(web, lot, piece))
        self.assertIn(piece, ring(web, lot, piece))


class GreatWebs(unittest.TestCase):
    """The edges that the point names."""

    def powers(self, prime, many, pieces):
        """A web of which each many pieces are lean, and each many and one are a ring."""
        return oracle.web_over(prime, many, [tuple(a ** k % prime for k in range(many)) for a in range(pieces)])

    def test_twelve_pieces(self):
        for many in (1, 5, 10):
            web = self.powers(251, many, 12)
            found = all_rings(web)
            self.assertEqual(found, list(combinations(range(12), many + 1)))
            for lot in found[::50]:
                values = ring_values(web, lot)
                self.assertEqual((values[0], 0 in values), (1, False))
                self.assertEqual(oracle.added(251, many, oracle.sums_of(web, lot), values), (0,) * many)
                self.assertIs(is_ring(web, lot), True)
                self.assertEqual(ring(web, lot[1:], lot[0]), lot)
                self.assertEqual(ring(web, lot[:-1], lot[-1]), lot)

    def test_more_than_twelve_pieces(self):
        for pieces in (13, 40):
            with self.assertRaises(TooMany) as caught:
                all_rings(self.powers(251, 10, pieces))
            self.assertEqual(caught.exception.most, 12)

    def test_forty_pieces(self):
        web = self.powers(251, 10, 40)
        self.assertEqual(ring(web, tuple(range(5, 15)), 39), tuple(range(5, 15)) + (39,))
        self.assertEqual(ring(web, tuple(range(5, 15)), 0), (0,) + tuple(range(5, 15)))
        self.assertIsNone(ring(web, tuple(range(5, 14)), 39))
        self.assertIs(is_ring(web, tuple(range(11))), True)
        self.assertIs(is_ring(web, tuple(range(12))), False)
        self.assertIs(is_ring(web, tuple(range(40))), False)

    def test_equal_pieces_are_rings(self):
        web = Web(2, 1, (((1,), 1),) * 12)
        self.assertEqual(all_rings(web), list(combinations(range(12), 2)))
        self.assertEqual((ring(web, (4,), 2), ring_values(web, (2, 4)), ring(web, (), 3)), ((2, 4), (1, 1), None))
        web = Web(251, 2, (((1, 2), 1), ((250, 249), 1), ((0, 1), 1)))
        self.assertEqual((all_rings(web), ring_values(web, (0, 1))), ([(0, 1)], (1, 1)))

    def test_no_pieces(self):
        web = Web(2, 10, ())
        self.assertEqual((all_rings(web), is_ring(web, ())), ([], False))
        self.assertRaises(NoRing, ring_values, web, ())
        self.assertRaises(NoPiece, ring, web, (), 0)

    def test_fewest_first(self):
        web = oracle.web_over(2, 3, ((1, 0, 0), (0, 1, 0), (1, 1, 0), (0, 0, 1), (0, 0, 1), (1, 1, 1)))
        self.assertEqual(all_rings(web), [(3, 4), (0, 1, 2), (2, 3, 5), (2, 4, 5), (0, 1, 3, 5), (0, 1, 4, 5)])


class WrongThings(unittest.TestCase):
    """What is raised, in which order, and what is judged."""

    def wrong_lots(self):
        return oracle.junk() + [0, 1, (3,), (0, 3), (1, 0), (0, 0), (0, 2, 1), [0, 1, 2], (0, 1, 2, 3),
                                tuple(range(19999)), (False, 1, 2), (0, True, 2)]

    def test_no_lot(self):
        for thing in self.wrong_lots():
            self.assertRaises(NoLot, ring, EXAMPLE, thing, None)
            self.assertRaises(NoLot, ring, EXAMPLE, thing, 0)
            self.assertRaises(NoLot, ring_values, EXAMPLE, thing)
            self.assertIs(is_ring(EXAMPLE, thing), False)
        self.assertIs(is_ring(EXAMPLE, (0, 1, 2)), True)

    def test_not_alone_then_no_piece(self):
        self.assertRaises(NoLot, ring, EXAMPLE, [0, 1, 2], 0)
        self.assertRaises(NotAlone, ring, EXAMPLE, (0, 1, 2), 0)
        self.assertRaises(NotAlone, ring, EXAMPLE, (0, 1, 2), None)
        for thing in oracle.no_integers() + [-1, 3, 10 ** 59, 0, 1, (2,), ((1, 4), 3)]:
            self.assertRaises(NoPiece, ring, EXAMPLE, (0, 1), thing)
        for thing in oracle.no_integers() + [-1, 3]:
            self.assertRaises(NoPiece, ring, EXAMPLE, (), thing)

    def test_no_ring(self):
        for lot in ((), (0,), (0, 1)):
            self.assertTrue(is_lean(EXAMPLE, lot))
            self.assertRaises(NoRing, ring_values, EXAMPLE, lot)

    def test_results_are_new(self):
        found = all_rings(EXAMPLE)
        found.append(None)
        self.assertEqual(all_rings(EXAMPLE), [(0, 1, 2)])

    def test_kinds_of_what_is_returned(self):
        self.assertIs(type(all_rings(EXAMPLE)), list)
        for found in (ring(EXAMPLE, (0, 2), 1), ring_values(EXAMPLE, (0, 1, 2)), all_rings(EXAMPLE)[0]):
            self.assertEqual((type(found), {type(value) for value in found}), (tuple, {int}))


class Examples(unittest.TestCase):

    def test_e03_but_for_cuts(self):
        w = EXAMPLE
        self.assertEqual((ring(w, (0, 2), 1), ring_values(w, (0, 1, 2)), all_rings(w)),
                         ((0, 1, 2), (1, 4, 4), [(0, 1, 2)]))


if __name__ == "__main__":
    unittest.main()
