"""Points 2.1 and 2.2: webs, keepings, readings, lean lots."""

import random
import unittest
from itertools import combinations, product
from math import comb

from lightfirst.errors import BadWeb, NoLot, NoVersion, TooMany
from lightfirst.webs import (Web, can_read, is_keeping, is_lean, is_reading, lean, lean_keepings, needless, rank_of,
                             reading, size_of, unread)
from tests import oracle

TAKES_LOT = (rank_of, size_of, can_read, unread, lean, needless)
JUDGES = (is_keeping, is_lean)
EXAMPLE = Web(5, 2, (((1, 0), 10), ((0, 1), 10), ((1, 4), 3)))


def lots_of(web):
    """All lots of a web."""
    return oracle.subsets(tuple(range(len(web.pieces))))


class SmallWebs(unittest.TestCase):
    """Everything of small webs, against the very words."""

    def test_lots(self):
        for web in oracle.small_webs():
            for lot in lots_of(web):
                sums = oracle.sums_of(web, lot)
                told = oracle.told(web, lot)
                self.assertEqual(rank_of(web, lot), oracle.rank(web.prime, web.many, sums))
                self.assertEqual(size_of(web, lot), sum(3 + 2 * k for k in lot))
                self.assertEqual(can_read(web, lot), told)
                self.assertEqual(unread(web, lot), tuple(v for v in range(web.many) if v not in told))
                self.assertIs(is_keeping(web, lot), len(told) == web.many)
                self.assertIs(is_lean(web, lot), oracle.is_lean(web, lot))

    def test_lean_and_needless(self):
        for web in oracle.small_webs():
            for lot in lots_of(web):
                sums = oracle.sums_of(web, lot)
                made = [oracle.span(web.prime, web.many, sums[:k]) for k in range(len(lot))]
                self.assertEqual(lean(web, lot), tuple(lot[k] for k in range(len(lot)) if sums[k] not in made[k]))
                made = [oracle.span(web.prime, web.many, sums[:k] + sums[k + 1:]) for k in range(len(lot))]
                self.assertEqual(needless(web, lot), tuple(lot[k] for k in range(len(lot)) if sums[k] in made[k]))

    def test_reading(self):
        for web in oracle.small_webs():
            for lot in lots_of(web):
                kept = lean(web, lot)
                for version in range(web.many):
                    right = oracle.ways(web.prime, oracle.sums_of(web, lot), oracle.unit(web, version))
                    right = [tuple((k, t) for k, t in zip(lot, times) if t) for times in right]
                    fitting = [way for way in right if all(k in kept for k, _ in way)]
                    self.assertEqual(reading(web, lot, version), fitting[0] if fitting else None)
                    for way in right:
                        self.assertIs(is_reading(web, lot, version, way), True)

    def test_is_reading(self):
        sums = ((1, 0), (1, 1), (2, 2), (0, 1))
        web = oracle.web_over(3, 2, sums)
        pairs = list(product(range(4), range(-1, 5)))
        for lot in ((0, 1, 3), (1, 2), (0, 1, 2, 3), ()):
            for version in (0, 1):
                right = oracle.ways(3, oracle.sums_of(web, lot), oracle.unit(web, version))
                right = {tuple((k, t) for k, t in zip(lot, times) if t) for times in right}
                for thing in oracle.tuples_of(pairs, 3):
                    self.assertIs(is_reading(web, lot, version, thing), thing in right)

    def test_step_of_lean_ones(self):
        for web in oracle.small_webs():
            lean_ones = lean_keepings(web)
            for lot in lots_of(web):
                if not is_keeping(web, lot):
                    self.assertNotIn(lot, lean_ones)
                    continue
                self.assertIs(is_lean(web, lot), len(lot) == web.many)
                self.assertIs(is_lean(web, lot), needless(web, lot) == ())
                self.assertIs(is_lean(web, lot), lot in lean_ones)
                self.assertIn(lean(web, lot), lean_ones)
                self.assertTrue(set(lean(web, lot)) <= set(lot))
                ways = [len(oracle.ways(web.prime, oracle.sums_of(web, lot), oracle.unit(web, version)))
                        for version in range(web.many)]
                self.assertIs(is_lean(web, lot), ways == [1] * web.many)

    def test_lean_keepings(self):
        for web in oracle.small_webs():
            right = [lot for lot in combinations(range(len(web.pieces)), web.many) if oracle.is_keeping(web, lot)]
            self.assertEqual(lean_keepings(web), right)


class GreatWebs(unittest.TestCase):
    """The edges that the points name."""

    def powers(self, prime, many, pieces):
        """A web of which each many pieces are a lean keeping."""
        return oracle.web_over(prime, many, [tuple(a ** k % prime for k in range(many)) for a in range(pieces)])

    def test_ten_versions_and_forty_pieces(self):
        web = self.powers(251, 10, 40)
        every = tuple(range(40))
        self.assertEqual((rank_of(web, every), lean(web, every), needless(web, every)),
                         (10, tuple(range(10)), every))
        self.assertEqual((can_read(web, every[:9]), unread(web, every[:9])), ((0,), tuple(range(1, 10))))
        self.assertEqual(can_read(web, every[31:]), ())
        chance = random.Random(7)
        for _ in range(20):
            lot = tuple(sorted(chance.sample(every, 10)))
            self.assertIs(is_keeping(web, lot), True)
            self.assertIs(is_lean(web, lot), True)
            self.assertEqual(needless(web, lot), ())
            self.assertIs(is_keeping(web, lot[1:]), False)
            for version in range(10):
                way = reading(web, lot, version)
                made = oracle.added(251, 10, oracle.sums_of(web, [k for k, _ in way]), [t for _, t in way])
                self.assertEqual(made, oracle.unit(web, version))
                self.assertIs(is_reading(web, lot, version, way), True)
                self.assertIs(is_reading(web, every, version, way), True)
                self.assertIs(is_reading(web, lot, 9 - version, way), False)

    def test_one_version(self):
        web = Web(2, 1, (((1,), 1),) * 40)
        every = tuple(range(40))
        self.assertEqual((rank_of(web, every), size_of(web, every), can_read(web, every), unread(web, ())),
                         (1, 40, (0,), (0,)))
        self.assertEqual((lean(web, every), needless(web, every), needless(web, (7,))), ((0,), every, ()))
        self.assertEqual(lean_keepings(web), [(k,) for k in range(40)])
        self.assertEqual((reading(web, (3, 9), 0), reading(web, (), 0)), (((3, 1),), None))
        self.assertIs(is_reading(web, every, 0, tuple((k, 1) for k in range(39))), True)
        self.assertIs(is_reading(web, every, 0, tuple((k, 1) for k in range(40))), False)

    def test_no_pieces(self):
        for many in (1, 10):
            web = Web(251, many, ())
            self.assertEqual((rank_of(web, ()), size_of(web, ()), can_read(web, ()), unread(web, ())),
                             (0, 0, (), tuple(range(many))))
            self.assertEqual((lean(web, ()), needless(web, ()), lean_keepings(web)), ((), (), []))
            self.assertEqual((is_keeping(web, ()), is_lean(web, ())), (False, True))
            self.assertIsNone(reading(web, (), 0))
            self.assertIs(is_reading(web, (), 0, ()), False)

    def test_sizes(self):
        web = Web(2, 1, (((1,), 1), ((1,), 10 ** 6), ((1,), 10 ** 6)))
        self.assertEqual([size_of(web, lot) for lot in ((0,), (1,), (0, 1, 2))], [1, 10 ** 6, 2 * 10 ** 6 + 1])

    def test_bound_of_lean_keepings(self):
        # (pieces, versions): just not above the bound, and just above it.
        for pieces, many in ((40, 3), (27, 4), (20, 5), (18, 6), (17, 7), (17, 10), (9, 10)):
            self.assertLessEqual(comb(pieces, many), 20000)
            web = self.powers(251, many, pieces)
            found = lean_keepings(web)
            self.assertEqual(found, list(combinations(range(pieces), many)))
        for pieces, many in ((40, 4), (28, 4), (22, 5), (19, 6), (18, 7), (17, 8), (18, 10), (40, 10)):
            self.assertGreater(comb(pieces, many), 20000)
            with self.assertRaises(TooMany) as caught:
                lean_keepings(self.powers(251, many, pieces))
            self.assertEqual(caught.exception.most, 20000)


class TheClass(unittest.TestCase):
    """What Web takes, keeps and equals."""

    def test_attributes(self):
        pieces = (((1, 0), 1), ((250, 3), 10 ** 6), ((1, 0), 1))
        web = Web(251, 2, pieces)
        self.assertEqual((web.prime, web.many, web.pieces), (251, 2, pieces))
        self.assertEqual(Web(2, 10, (((1,) * 10, 5),) * 40).many, 10)

    def test_equal(self):
        web = Web(5, 2, (((1, 0), 10),))
        self.assertTrue(web == Web(5, 2, (((1, 0), 10),)))
        self.assertFalse(web != Web(5, 2, (((1, 0), 10),)))
        for other in (Web(7, 2, (((1, 0), 10),)), Web(5, 2, (((1, 0), 11),)), Web(5, 2, (((1, 1), 10),)),
                      Web(5, 2, ()), Web(5, 2, (((1, 0), 10),) * 2)):
            self.assertFalse(web == other)
            self.assertTrue(web != other)
        self.assertFalse(Web(5, 1, ()) == Web(5, 2, ()))
        for thing in oracle.junk() + [(5, 2, (((1, 0), 10),)), BadWeb("many")]:
            self.assertFalse(web == thing)
            self.assertFalse(thing == web)

    def bad(self, *told):
        with self.assertRaises(BadWeb) as caught:
            Web(*told)
        return caught.exception.part

    def test_bad_prime_and_many(self):
        for thing in oracle.no_integers() + [-1, 0, 1, 4, 250, 252, 253, 256, 10 ** 59]:
            self.assertEqual(self.bad(thing, None, None), "prime")
        for thing in oracle.no_integers() + [-1, 0, 11, 10 ** 59]:
            self.assertEqual(self.bad(5, thing, None), "many")

    def test_bad_pieces(self):
        piece = ((1, 0), 10)
        for thing in [x for x in oracle.junk() if not isinstance(x, tuple)] + [0, 1, [piece], (piece,) * 41, (0,) * 41]:
            self.assertEqual(self.bad(5, 2, thing), "pieces")
        wrong = oracle.junk() + [0, 1, (), [(1, 0), 10], ((1, 0),), ((1, 0), 10, 1), ([1, 0], 10), ((1,), 10),
                                 ((1, 0, 0), 10), ((0, 0), 10), ((1, 5), 10), ((1, -1), 10), ((1, True), 10),
                                 ((1, 0), 0), ((1, 0), -1), ((1, 0), 10 ** 6 + 1), ((1, 0), True), ((1, 0), "1"),
                                 ((1, 0), None), ((1, 0), (1,)), ((1, 0), 10 ** 59), (10, (1, 0)), ((1, (0,)), 1)]
        for thing in wrong:
            self.assertEqual(self.bad(5, 2, (thing,)), 0)
            self.assertEqual(self.bad(5, 2, (piece, piece, thing, thing, piece)), 2)
            self.assertEqual(self.bad(5, 2, (piece,) * 39 + (thing,)), 39)

    def test_order_of_the_parts(self):
        self.assertEqual(self.bad(4, 0, [None]), "prime")
        self.assertEqual(self.bad(5, 0, [None]), "many")
        self.assertEqual(self.bad(5, 1, [None]), "pieces")

    def test_a_web_does_not_change(self):
        web = Web(5, 2, (((1, 0), 10),))
        self.assertRaises(BadWeb, web.__init__, 3, 2, [])
        self.assertTrue(web == Web(5, 2, (((1, 0), 10),)))


class WrongThings(unittest.TestCase):
    """What is raised, in which order, and what is judged."""

    def wrong_lots(self):
        return oracle.junk() + [0, 1, (3,), (0, 3), (1, 0), (0, 0), (0, 1, 1), (2, 1, 0), [0, 1], (0, 1, 2, 3),
                                tuple(range(19999)), (0,) * 19999, (1, True), (False,)]

    def test_no_lot(self):
        for thing in self.wrong_lots():
            for call in TAKES_LOT:
                self.assertRaises(NoLot, call, EXAMPLE, thing)
            self.assertRaises(NoLot, reading, EXAMPLE, thing, 0)
            self.assertRaises(NoLot, reading, EXAMPLE, thing, None)
            self.assertRaises(NoLot, is_reading, EXAMPLE, thing, None, None)
            for call in JUDGES:
                self.assertIs(call(EXAMPLE, thing), False)

    def test_no_version(self):
        for thing in oracle.no_integers() + [-1, 2, 10 ** 59, (0,)]:
            self.assertRaises(NoVersion, reading, EXAMPLE, (0, 1), thing)
            self.assertRaises(NoVersion, is_reading, EXAMPLE, (0, 1), thing, ((0, 1),))

    def test_is_reading_judges_anything(self):
        wrong = oracle.junk() + [0, 1, (), ((0,),), ((0, 1, 0),), (0, 1), [(0, 1)], ([0, 1],), ((0, True),),
                                 ((False, 1),), ((0, 6),), ((0, -4),), ((0, 1), (1, 0)), ((0, 1), (0, 5)),
                                 ((0, 3), (0, 3)), ((0, 1), None), ((0, (1,)),), ((3, 1),), ((-3, 1),),
                                 ((2, 1), (1, 1)), ((0, 1),) * 19999, (("0", 1),), ((0, "1"),)]
        for thing in wrong:
            self.assertIs(is_reading(EXAMPLE, (0, 1, 2), 0, thing), False)
        self.assertIs(is_reading(EXAMPLE, (0, 1, 2), 0, ((0, 1),)), True)
        self.assertIs(is_reading(EXAMPLE, (0, 1, 2), 0, ((1, 1), (2, 1))), True)
        self.assertIs(is_reading(EXAMPLE, (0, 1, 2), 0, ((2, 1), (1, 1))), False)
        self.assertIs(is_reading(EXAMPLE, (1, 2), 0, ((0, 1),)), False)

    def test_results_are_new(self):
        found = lean_keepings(EXAMPLE)
        found.append(None)
        self.assertEqual(lean_keepings(EXAMPLE), [(0, 1), (0, 2), (1, 2)])

    def test_kinds_of_what_is_returned(self):
        lot = (0, 1, 2)
        for call in (rank_of, size_of):
            self.assertIs(type(call(EXAMPLE, lot)), int)
            self.assertIs(type(call(EXAMPLE, ())), int)
        for call in (can_read, unread, lean, needless):
            self.assertIs(type(call(EXAMPLE, lot)), tuple)
            self.assertIs(type(call(EXAMPLE, ())), tuple)
        self.assertIs(type(lean_keepings(EXAMPLE)), list)
        self.assertEqual([type(lot) for lot in lean_keepings(EXAMPLE)], [tuple] * 3)
        self.assertEqual([type(pair) for pair in reading(EXAMPLE, (0, 2), 1)], [tuple] * 2)
        for number in sum(reading(EXAMPLE, (0, 2), 1), ()) + can_read(EXAMPLE, lot):
            self.assertIs(type(number), int)


class Examples(unittest.TestCase):

    def test_e02(self):
        w = Web(5, 2, (((1, 0), 10), ((0, 1), 10), ((1, 4), 3)))
        self.assertEqual((is_keeping(w, (0, 2)), reading(w, (0, 2), 1), unread(w, (2,)), lean_keepings(w)),
                         (True, ((0, 1), (2, 4)), (0, 1), [(0, 1), (0, 2), (1, 2)]))


if __name__ == "__main__":
    unittest.main()
