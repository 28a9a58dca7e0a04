"""Point 3.2: cuts."""

import unittest
from itertools import combinations, product
from math import comb

from lightfirst.cuts import all_cuts, cut, cut_row, is_cut
from lightfirst.errors import NoCut, NoKeeping, NoLot, NoPiece, NotAlone, TooMany
from lightfirst.webs import Web
from tests import oracle

EXAMPLE = Web(5, 2, (((1, 0), 10), ((0, 1), 10), ((1, 4), 3)))
# No keepings: without pieces, of too few of them, of many that leave a version out, of more than twelve such.
NO_WEBS = [Web(2, 1, ()), Web(2, 2, (((1, 0), 1),)), Web(3, 2, (((1, 1), 1), ((2, 2), 1), ((1, 1), 4))),
           Web(2, 3, (((1, 0, 0), 1), ((0, 1, 0), 1), ((1, 1, 0), 1))), Web(2, 2, (((1, 1), 2),) * 13)]


def every(web):
    """The lot of all pieces."""
    return tuple(range(len(web.pieces)))


def webs():
    """Small webs that are themselves keepings."""
    found = [web for web in oracle.small_webs() if oracle.is_keeping(web, every(web))]
    return found[::3] + oracle.random_webs(32, 14)


def is_cut_by_words(web, lot):
    """Whether a lot is a cut, by the very words."""
    others = tuple(k for k in every(web) if k not in lot)
    if oracle.is_keeping(web, others):
        return False
    return all(oracle.is_keeping(web, oracle.toggled(others, k)) for k in lot)


class SmallWebs(unittest.TestCase):
    """Everything of small webs, against the very words."""

    def test_is_cut_and_all_cuts(self):
        for web in webs():
            right = [lot for lot in oracle.lots(web) if is_cut_by_words(web, lot)]
            self.assertEqual(all_cuts(web), right)
            for lot in oracle.lots(web):
                self.assertIs(is_cut(web, lot), lot in right)

    def test_cut(self):
        for web in webs():
            cuts = all_cuts(web)
            for lot in oracle.keepings(web):
                if len(lot) == web.many:
                    for piece in lot:
                        fitting = [told for told in cuts if set(told) & set(lot) == {piece}]
                        self.assertEqual([cut(web, lot, piece)], fitting)

    def test_cut_row(self):
        for web in webs():
            rows = [row for row in product(range(web.prime), repeat=web.many)
                    if any(row) and [value for value in row if value][0] == 1]
            for lot in oracle.lots(web):
                if not is_cut_by_words(web, lot):
                    self.assertRaises(NoCut, cut_row, web, lot)
                    continue
                fitting = [row for row in rows if lot == tuple(
                    k for k, (values, _) in enumerate(web.pieces)
                    if sum(x * y for x, y in zip(values, row)) % web.prime != 0)]
                self.assertEqual([cut_row(web, lot)], fitting)

    def test_step_of_cuts(self):
        for web in webs():
            rings = [lot for lot in oracle.lots(web) if oracle.is_ring(web, lot)]
            cuts = all_cuts(web)
            for one in rings:
                for other in cuts:
                    self.assertNotEqual(len(set(one) & set(other)), 1)
            for lot in oracle.lots(web):
                meets = all(set(lot) & set(told) for told in cuts)
                self.assertIs(meets, oracle.is_keeping(web, lot))
            for piece in every(web):
                self.assertIs(any(piece in lot for lot in rings), (piece,) not in cuts)


class GreatWebs(unittest.TestCase):
    """The edges that the point names."""

    def test_twelve_pieces(self):
        for many in (1, 5, 10):
            web = oracle.powers_web(251, many, 12, lambda a: 3 + a)
            found = all_cuts(web)
            self.assertEqual(found, list(combinations(range(12), 13 - many)))
            for lot in found[::40]:
                self.assertIs(is_cut(web, lot), True)
                row = cut_row(web, lot)
                self.assertEqual([value for value in row if value][0], 1)
                told = tuple(k for k in range(12) if sum(x * y for x, y in zip(web.pieces[k][0], row)) % 251)
                self.assertEqual(told, lot)
                others = tuple(k for k in range(12) if k not in lot)
                self.assertEqual(cut(web, tuple(sorted(others + lot[-1:])), lot[-1]), lot)

    def test_more_than_twelve_pieces(self):
        for pieces in (13, 40):
            web = oracle.powers_web(251, 3, pieces, lambda a: 3 + a)
            with self.assertRaises(TooMany) as caught:
                all_cuts(web)
            self.assertEqual(caught.exception.most, 12)
            lot = tuple(range(2, pieces))
            self.assertIs(is_cut(web, lot), True)
            self.assertIs(is_cut(web, lot[1:]), False)
            self.assertEqual(cut(web, (0, 1, 7), 7), lot)
            # The plane of (1, 0, 0) and (1, 1, 1).
            self.assertEqual(cut_row(web, lot), (0, 1, 250))

    def test_pieces_that_are_cuts_by_themselves(self):
        web = Web(3, 3, (((1, 0, 0), 1), ((0, 2, 0), 1), ((0, 0, 1), 1), ((0, 0, 2), 1)))
        self.assertEqual(all_cuts(web), [(0,), (1,), (2, 3)])
        self.assertEqual([cut(web, (0, 1, 3), k) for k in (0, 1, 3)], [(0,), (1,), (2, 3)])
        self.assertEqual([cut_row(web, lot) for lot in all_cuts(web)], [(1, 0, 0), (0, 1, 0), (0, 0, 1)])
        self.assertIs(is_cut(web, ()), False)
        self.assertIs(is_cut(web, (0, 1, 2, 3)), False)

    def test_as_many_cuts_as_there_are_rows(self):
        web = oracle.web_over(2, 3, oracle.all_sums(2, 3))
        self.assertEqual([len(lot) for lot in all_cuts(web)], [4] * comb(7, 1))
        self.assertEqual(sorted(cut_row(web, lot) for lot in all_cuts(web)), oracle.all_sums(2, 3))


class WrongThings(unittest.TestCase):
    """What is raised, in which order, and what is judged."""

    def wrong_lots(self):
        return oracle.junk() + [0, 1, (3,), (0, 3), (1, 0), (0, 0), (0, 2, 1), [0, 1, 2], (0, 1, 2, 3),
                                tuple(range(19999)), (False, 1, 2), (0, True, 2)]

    def test_webs_that_are_no_keepings(self):
        for web in NO_WEBS:
            self.assertRaises(NoKeeping, all_cuts, web)
            for thing in self.wrong_lots() + [(), (0,)]:
                self.assertRaises(NoKeeping, is_cut, web, thing)
                self.assertRaises(NoKeeping, cut_row, web, thing)
                self.assertRaises(NoKeeping, cut, web, thing, None)

    def test_no_lot_and_no_cut(self):
        for thing in self.wrong_lots():
            self.assertRaises(NoLot, cut_row, EXAMPLE, thing)
            self.assertIs(is_cut(EXAMPLE, thing), False)
        for lot in ((), (0,), (1,), (2,), (0, 1, 2)):
            self.assertRaises(NoCut, cut_row, EXAMPLE, lot)
            self.assertIs(is_cut(EXAMPLE, lot), False)

    def test_no_keeping_then_not_alone_then_no_piece(self):
        for thing in self.wrong_lots() + [(), (0,), (1,), (2,)]:
            self.assertRaises(NoKeeping, cut, EXAMPLE, thing, 0)
            self.assertRaises(NoKeeping, cut, EXAMPLE, thing, None)
        for thing in (0, 1, 2, 3, None, True):
            self.assertRaises(NotAlone, cut, EXAMPLE, (0, 1, 2), thing)
        for thing in oracle.no_integers() + [-1, 2, 3, 10 ** 59, (0,), ((1, 0), 10)]:
            self.assertRaises(NoPiece, cut, EXAMPLE, (0, 1), thing)

    def test_results_are_new(self):
        found = all_cuts(EXAMPLE)
        found.append(None)
        self.assertEqual(all_cuts(EXAMPLE), [(0, 1), (0, 2), (1, 2)])

    def test_kinds_of_what_is_returned(self):
        self.assertIs(type(all_cuts(EXAMPLE)), list)
        for found in (cut(EXAMPLE, (0, 2), 0), cut_row(EXAMPLE, (0, 1)), all_cuts(EXAMPLE)[0]):
            self.assertEqual((type(found), {type(value) for value in found}), (tuple, {int}))


if __name__ == "__main__":
    unittest.main()
