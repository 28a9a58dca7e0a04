"""Points 8.1 and 8.2: contents, their parts, known contents."""

import unittest
from itertools import product
from random import Random

from lightfirst.contents import (agree, content, contents, fits, is_spoilt, parts, read_row, row_of, spoilt, web_of)
from lightfirst.errors import BadWeb, NoContents, NoLot, NoNumber, NoPiece, NoPrime, NoRows, NoVersion
from lightfirst.rings import all_rings, ring_values
from lightfirst.webs import Web, reading
from tests import oracle

R = ((1, 2), (1, 3))
W = web_of(5, R, ((1, 0), (0, 1), (4, 1)))
SMALL = [Web(2, 2, tuple((values, 1) for values in sums)) for sums in (
    ((1, 0), (0, 1), (1, 1)), ((1, 1), (1, 1), (1, 0)), ((1, 0), (1, 0), (1, 0)), ((1, 1), (0, 1)), ())]
SMALL += [Web(3, 1, (((1,), 1), ((2,), 1), ((1,), 1))), Web(3, 2, (((1, 2), 1), ((2, 1), 1), ((0, 1), 1)))]


def rows_of(prime, width):
    """All rows of a width."""
    return list(product(range(prime), repeat=width))


def content_by_words(web, rows, piece):
    """The content of a piece, by the very words."""
    times = web.pieces[piece][0]
    return tuple(sum(t * row[place] for t, row in zip(times, rows)) % web.prime for place in range(len(rows[0])))


def parts_by_words(prime, row):
    """The parts of a content, by the very words."""
    told = [place * prime + row[place] for place in range(len(row)) if row[place]]
    return (len(told), *told)


def all_known(web, width):
    """All known contents of a width, and the empty ones."""
    rows = rows_of(web.prime, width)
    return [dict(zip(lot, chosen)) for lot in oracle.lots(web) for chosen in product(rows, repeat=len(lot))]


def agree_by_words(web, width):
    """All known contents of all rows, as sets of pairs."""
    found = set()
    for rows in product(rows_of(web.prime, width), repeat=web.many):
        every = {k: content_by_words(web, rows, k) for k in range(len(web.pieces))}
        found |= {frozenset((k, every[k]) for k in lot) for lot in oracle.lots(web)}
    return found


class SmallRows(unittest.TestCase):
    """Everything of small webs and widths, against the very words."""

    def test_content_and_contents(self):
        for web in SMALL:
            for width in (1, 2):
                for rows in product(rows_of(web.prime, width), repeat=web.many):
                    right = {k: content_by_words(web, rows, k) for k in range(len(web.pieces))}
                    self.assertEqual({k: content(web, rows, k) for k in right}, right)
                    for lot in oracle.lots(web):
                        self.assertEqual(contents(web, rows, lot), {k: right[k] for k in lot})

    def test_parts_and_row_of(self):
        for web in (SMALL[0], SMALL[-1], W):
            for width in (1, 2, 3):
                right = {parts_by_words(web.prime, row): row for row in rows_of(web.prime, width)}
                for told, row in right.items():
                    self.assertEqual(parts(web, row), told)
                    self.assertEqual(row_of(web, width, told), row)
                for thing in oracle.tuples_of(range(-1, width * web.prime + 1), 3):
                    self.assertEqual(row_of(web, width, thing), right.get(thing))

    def test_web_of_and_fits(self):
        for prime, width in ((2, 1), (2, 2), (3, 1)):
            for rows in product(rows_of(prime, width), repeat=2):
                sums = tuple(oracle.all_sums(prime, 2))
                web = web_of(prime, rows, sums)
                sizes = [len(parts_by_words(prime, content_by_words(web, rows, k))) for k in range(len(sums))]
                self.assertTrue(web == Web(prime, 2, tuple(zip(sums, sizes))))
                for others in product(rows_of(prime, width), repeat=2):
                    right = [len(parts_by_words(prime, content_by_words(web, others, k))) for k in range(len(sums))]
                    self.assertIs(fits(web, others), right == sizes)

    def test_agree_and_spoilt(self):
        for web in SMALL:
            for width in (1, 2) if web.prime == 2 else (1,):
                right = agree_by_words(web, width)
                for known in all_known(web, width):
                    told = frozenset(known.items()) in right
                    self.assertIs(agree(web, known), told)
                    found = spoilt(web, known)
                    self.assertIs(found is None, told)
                    if found is not None:
                        self.assertIs(is_spoilt(web, known, found), True)

    def test_is_spoilt_and_step_of_contents(self):
        for web in SMALL:
            rings = all_rings(web)
            for known in all_known(web, 1):
                open_ones = []
                for ring in rings:
                    if all(k in known for k in ring):
                        values = ring_values(web, ring)
                        if sum(t * known[k][0] for t, k in zip(values, ring)) % web.prime:
                            open_ones.append((ring, 0))
                self.assertIs(agree(web, known), open_ones == [])
                for lot in oracle.lots(web):
                    for place in (-1, 0, 1):
                        self.assertIs(is_spoilt(web, known, (lot, place)), (lot, place) in open_ones)

    def test_read_row(self):
        for web in SMALL:
            for known in all_known(web, 1):
                for version in range(web.many):
                    way = reading(web, tuple(sorted(known)), version)
                    right = None if way is None else (sum(t * known[k][0] for k, t in way) % web.prime,)
                    self.assertEqual(read_row(web, known, version), right)

    def test_each_way_tells_the_same_row(self):
        chance = Random(8)
        for web in oracle.random_webs(81, 14):
            rows = tuple(tuple(chance.randrange(web.prime) for _ in range(3)) for _ in range(web.many))
            for lot in oracle.lots(web):
                known = contents(web, rows, lot)
                self.assertIs(agree(web, known), True)
                for version in range(web.many):
                    right = rows[version] if version in oracle.told(web, lot) else None
                    self.assertEqual(read_row(web, known, version), right)
                    backwards = {k: known[k] for k in reversed(lot)}
                    self.assertEqual(read_row(web, backwards, version), right)


class Edges(unittest.TestCase):

    def test_widths_one_and_twelve(self):
        wide = (tuple(range(12)), (250,) * 12)
        web = web_of(251, wide, ((1, 0), (0, 1), (1, 1), (250, 250)))
        self.assertEqual([size for _, size in web.pieces], [12, 13, 12, 12])
        self.assertEqual(content(web, wide, 2), (250,) + tuple(range(11)))
        self.assertEqual(parts(web, wide[1])[-1], 11 * 251 + 250)
        for row in wide:
            self.assertEqual(row_of(web, 12, parts(web, row)), row)
            self.assertIsNone(row_of(web, 11, parts(web, row)))
        self.assertEqual((parts(web, (250,)), row_of(web, 1, (1, 250)), row_of(web, 1, (1, 251))),
                         ((1, 250), (250,), None))
        self.assertIs(fits(web, wide), True)
        self.assertEqual(web_of(2, ((1,),), ((1,),)).pieces, (((1,), 2),))

    def test_contents_of_noughts(self):
        nought = ((0, 0), (0, 0))
        web = web_of(5, nought, ((1, 0), (0, 1), (4, 1)))
        self.assertEqual([size for _, size in web.pieces], [1, 1, 1])
        self.assertEqual((content(web, nought, 2), parts(web, (0, 0)), row_of(web, 2, (0,)), row_of(web, 12, (0,))),
                         ((0, 0), (0,), (0, 0), (0,) * 12))
        self.assertEqual((fits(W, nought), fits(web, nought)), (False, True))

    def test_the_empty_known_contents(self):
        for web in (W, Web(2, 10, ())):
            self.assertEqual((agree(web, {}), spoilt(web, {}), read_row(web, {}, 0)), (True, None, None))
            for thing in (((0, 1, 2), 0), ((), 0), ((0, 1, 2), -1)):
                self.assertIs(is_spoilt(web, {}, thing), False)

    def test_no_pieces_and_ten_versions(self):
        rows = ((1,),) * 10
        self.assertEqual(web_of(2, rows, ()).pieces, ())
        web = web_of(251, rows, tuple(oracle.unit(Web(251, 10, ()), v) for v in range(10)) * 4)
        self.assertEqual((len(web.pieces), fits(web, rows)), (40, True))
        known = contents(web, rows, tuple(range(40)))
        self.assertEqual([read_row(web, known, v) for v in range(10)], [(1,)] * 10)
        self.assertIs(agree(web, known), True)
        known[39] = (2,)
        self.assertEqual(spoilt(web, known), ((9, 39), 0))
        self.assertEqual(read_row(web, known, 9), (1,))

    def test_known_in_any_order(self):
        web = Web(2, 1, (((1,), 2),) * 4)
        for known in ({3: (1,), 1: (0,), 0: (0,)}, {1: (0,), 3: (1,), 0: (0,)}, {3: (1,), 0: (0,)}):
            self.assertEqual((agree(web, known), spoilt(web, known)), (False, ((0, 3), 0)))
        self.assertIs(agree(W, {2: (0, 1), 1: (1, 3), 0: (1, 2)}), True)

    def test_unlike_ways_where_they_do_not_agree(self):
        known = {0: (1, 2), 1: (1, 3), 2: (0, 2)}
        self.assertIs(agree(W, known), False)
        self.assertEqual(spoilt(W, known), ((0, 1, 2), 1))
        self.assertEqual([is_spoilt(W, known, ((0, 1, 2), place)) for place in (-1, 0, 1, 2)],
                         [False, False, True, False])
        self.assertEqual((read_row(W, known, 1), read_row(W, {2: (0, 2), 0: (1, 2)}, 1)), ((1, 3), (1, 4)))


class WrongThings(unittest.TestCase):
    """What is raised, in which order, and what is judged."""

    def wrong_rows(self):
        return oracle.junk() + [0, ((1, 2),), ((1, 2), (1, 3), (0, 0)), ((1, 2), (1,)), ((), ()), [(1, 2), (1, 3)],
                                ([1, 2], [1, 3]), ((1, 2), (1, 5)), ((1, 2), (1, -1)), ((1, 2), (1, True)),
                                ((1, 2), None), (None, (1, 2)), (5, (1, 2)), ((1, 2), 5), ((0,) * 13, (0,) * 13),
                                ((1, "2"), (1, 3)), (((1,), 2), (1, 3)), {0: (1, 2), 1: (1, 3)}, ((0,) * 9999,) * 2]

    def test_no_rows(self):
        for thing in self.wrong_rows():
            self.assertRaises(NoRows, content, W, thing, None)
            self.assertRaises(NoRows, contents, W, thing, None)
            self.assertRaises(NoRows, fits, W, thing)
            # Rows of one version, and of three, are right for another web.
            if thing not in (((1, 2),), ((1, 2), (1, 3), (0, 0))):
                self.assertRaises(NoRows, web_of, 5, thing, None)

    def test_rows_of_web_of(self):
        for thing in ((), ((1,),) * 11, ((),), ((0,) * 13,)):
            self.assertRaises(NoRows, web_of, 5, thing, None)
        self.assertEqual(web_of(5, ((1,),) * 10, ()).many, 10)

    def test_no_piece_and_no_lot(self):
        for thing in oracle.no_integers() + [-1, 3, 10 ** 59, (0,)]:
            self.assertRaises(NoPiece, content, W, R, thing)
        for thing in [x for x in oracle.junk() if x != ()] + [0, (3,), (1, 0), [0, 1], (0, 0), (False, 1)]:
            self.assertRaises(NoLot, contents, W, R, thing)

    def test_wrong_web_of(self):
        for thing in oracle.no_integers() + [0, 1, 4, 252]:
            self.assertRaises(NoPrime, web_of, thing, None, None)
        for thing in [x for x in oracle.junk() if not isinstance(x, tuple)] + [[(1, 0)], ((1, 0),) * 41, (0,) * 19999]:
            self.check_bad("pieces", thing)
        for thing in oracle.junk() + [0, (), (1,), (0, 0), (1, 5), (1, 0, 0), (1, True), ((1, 0), 3)]:
            self.check_bad(0, (thing,))
            self.check_bad(2, ((1, 0), (0, 1), thing, thing))

    def check_bad(self, part, sums):
        with self.assertRaises(BadWeb) as caught:
            web_of(5, R, sums)
        self.assertEqual(caught.exception.part, part)

    def test_no_contents(self):
        wrong = [x for x in oracle.junk() if x != {}] + [
            0, {0: 1}, {0: ()}, {0: (1, 2), 1: (1,)}, {3: (1, 2)}, {-1: (1, 2)}, {"0": (1, 2)}, {(0,): (1, 2)},
            {0: [1, 2]}, {0: (1, 5)}, {0: (1, True)}, {0: (0,) * 13}, {0: (1, 2), 1: None}, {0: None, 1: (1, 2)},
            {None: (1, 2)}, [(0, (1, 2))], ((0, (1, 2)),), {0: {0: 1}}, {0: ((1,), 2)}, {0: (1, 2), "1": (1, 2)},
            {k: (1, 2) for k in range(4000)}]
        for thing in wrong:
            self.assertRaises(NoContents, read_row, W, thing, None)
            self.assertRaises(NoContents, agree, W, thing)
            self.assertRaises(NoContents, spoilt, W, thing)
            self.assertRaises(NoContents, is_spoilt, W, thing, None)
        for thing in [x for x in oracle.junk() if not isinstance(x, tuple) or not x] + [
                0, [1, 2], (1, 5), (1, True), (0,) * 13, ((1,), 2), (-1,), ("1",)]:
            self.assertRaises(NoContents, parts, W, thing)

    def test_no_version_and_no_number(self):
        for thing in oracle.no_integers() + [-1, 2, 10 ** 59]:
            self.assertRaises(NoVersion, read_row, W, {0: (1, 2)}, thing)
            self.assertRaises(NoVersion, read_row, W, {}, thing)
        for thing in oracle.no_integers() + [-1, 0, 13, 10 ** 59]:
            self.assertRaises(NoNumber, row_of, W, thing, None)

    def test_row_of_tells_none_for_anything_else(self):
        for thing in oracle.junk() + [0, (1,), [1, 6], (1, 1, 6), (2, 6, 1), (2, 1, 1), (2, 1, 2), (1, 5), (1, 10),
                                      (1, True), (True, 1), (1, "6"), (1, (6,)), (1, -4), (0, 0), (1, 10 ** 59),
                                      (2, 1, 6, 6), (3, 1, 2, 6), ((1, 6),), (1, 6) * 9000]:
            self.assertIsNone(row_of(W, 2, thing))
        self.assertEqual((row_of(W, 2, (1, 6)), row_of(W, 2, (2, 1, 6))), ((0, 1), (1, 1)))

    def test_is_spoilt_judges_anything(self):
        known = {0: (1, 2), 1: (1, 3), 2: (0, 2)}
        for thing in oracle.junk() + [0, ((0, 1, 2),), ((0, 1, 2), 1, 1), [(0, 1, 2), 1], ([0, 1, 2], 1),
                                      ((2, 1, 0), 1), ((0, 1, 2), True), ((0, 1, 2), "1"), ((0, 1, 2), None),
                                      ((0, 1), 1), (1, (0, 1, 2)), ((False, 1, 2), 1), ((0, 1, 2), (1,))]:
            self.assertIs(is_spoilt(W, known, thing), False)
        self.assertIs(is_spoilt(W, known, ((0, 1, 2), 1)), True)
        self.assertIs(is_spoilt(W, {0: (1, 2), 1: (1, 3)}, ((0, 1, 2), 1)), False)

    def test_results_are_new_and_nothing_is_changed(self):
        known = {1: (1, 3), 0: (1, 2)}
        for call, told in ((agree, (W, known)), (spoilt, (W, known)), (read_row, (W, known, 0)),
                           (is_spoilt, (W, known, ((0, 1, 2), 0)))):
            call(*told)
            self.assertEqual(list(known.items()), [(1, (1, 3)), (0, (1, 2))])
        found = contents(W, R, (0,))
        found[1] = None
        self.assertEqual(contents(W, R, (0,)), {0: (1, 2)})
        self.assertEqual([type(x) for x in (content(W, R, 0), found, parts(W, (0, 1)), row_of(W, 2, (1, 6)), W)],
                         [tuple, dict, tuple, tuple, Web])


class Examples(unittest.TestCase):

    def test_e08(self):
        r = ((1, 2), (1, 3))
        self.assertEqual(web_of(5, r, ((1, 0), (0, 1), (4, 1))).pieces, (((1, 0), 3), ((0, 1), 3), ((4, 1), 2)))


if __name__ == "__main__":
    unittest.main()
