"""Point 10.1: pieces laid on a disk, and what they tell."""

import unittest
from itertools import product

from lightfirst.contents import contents, parts, web_of
from lightfirst.disk import Disk
from lightfirst.errors import BadDisk, NoKeeping, NoNumber, NoRoom, NoRows
from lightfirst.laid import cells_with, half, laid, lying_contents, meaning, whole
from lightfirst.webs import Web
from tests import oracle

R = ((1, 2), (1, 3))
W = web_of(5, R, ((1, 0), (0, 1), (4, 1)))
CALLS = (whole, half, lying_contents, meaning)


def disk_of(things):
    """A disk in whose cells these things lie."""
    disk = Disk(len(things))
    for cell, thing in enumerate(things):
        disk.write(cell, thing)
    disk.calm()
    return disk


def whole_by_words(web, width, things):
    """The dict from the pieces that lie whole to their contents, by the very words."""
    found = {}
    for piece in range(len(web.pieces)):
        here = sorted(thing for thing in things if thing and thing[0] == piece)
        for row in product(range(web.prime), repeat=width):
            if here == [(piece, part, number) for part, number in enumerate(parts(web, row))]:
                found[piece] = row
    return found


class SmallDisks(unittest.TestCase):
    """All fillings of small disks, against the very words."""

    def check(self, web, width, things):
        disk = disk_of(things)
        right = whole_by_words(web, width, things)
        seen = {thing[0] for thing in things if thing and thing[0] < len(web.pieces)}
        self.assertEqual(whole(web, width, disk), tuple(sorted(right)))
        self.assertEqual(half(web, width, disk), tuple(sorted(seen - set(right))))
        self.assertEqual(lying_contents(web, width, disk), right)
        for piece in range(4):
            cells = [cell for cell, thing in enumerate(things) if thing and thing[0] == piece]
            self.assertEqual(cells_with(disk, piece), tuple(cells))

    def test_one_piece(self):
        web = Web(2, 1, (((1,), 3), ((1,), 1)))
        things = [()] + [(piece, part, number) for piece in (0, 2) for part in range(3) for number in range(4)]
        for chosen in product(things, repeat=3):
            for width in (1, 2):
                self.check(web, width, chosen)

    def test_three_places(self):
        web = Web(2, 1, (((1,), 4),))
        things = [(), (0, 0, 2), (0, 0, 3), (0, 1, 1), (0, 2, 3), (0, 3, 5), (0, 2, 5)]
        for chosen in product(things, repeat=4):
            self.check(web, 3, chosen)

    def test_meaning(self):
        rows = ((1, 0, 2), (2, 2, 0))
        sums = ((1, 0), (0, 1), (1, 1), (2, 1))
        web = web_of(3, rows, sums)
        every = contents(web, rows, (0, 1, 2, 3))
        for lot in oracle.lots(web):
            things = [(k, part, number) for k in lot for part, number in enumerate(parts(web, every[k]))]
            for gone in [None] + list(range(len(things))):
                left = [thing for at, thing in enumerate(things) if at != gone]
                there = tuple(k for k in lot if gone is None or k != things[gone][0])
                disk = disk_of(left + [()])
                self.assertEqual(whole(web, 3, disk), there)
                self.assertEqual(meaning(web, 3, disk), {v: rows[v] for v in oracle.told(web, there)})


class Laid(unittest.TestCase):

    def test_all_keepings(self):
        rows = ((1, 0, 2), (0, 0, 0))
        web = web_of(3, rows, ((1, 0), (0, 1), (1, 1), (2, 1), (0, 2)))
        for lot in oracle.keepings(web):
            needed = oracle.size(web, lot)
            for cells in range(1, needed + 3):
                if cells < needed:
                    with self.assertRaises(NoRoom) as caught:
                        laid(web, rows, lot, cells)
                    self.assertEqual(caught.exception.least, needed)
                    continue
                disk = laid(web, rows, lot, cells)
                every = contents(web, rows, lot)
                things = [(k, part, number) for k in lot for part, number in enumerate(parts(web, every[k]))]
                self.assertEqual([disk.lying(cell) for cell in range(cells)], things + [()] * (cells - needed))
                self.assertEqual((disk.waiting(), disk.reached(), disk.many_cells()), ({}, 0, cells))
                self.assertEqual((whole(web, 3, disk), half(web, 3, disk)), (lot, ()))
                self.assertEqual(meaning(web, 3, disk), dict(enumerate(rows)))
                self.assertEqual(lying_contents(web, 3, disk), every)

    def test_one_and_two_thousand_cells(self):
        nought = web_of(5, ((0, 0),), ((1,), (2,)))
        disk = laid(nought, ((0, 0),), (1,), 1)
        self.assertEqual((disk.lying(0), whole(nought, 2, disk), meaning(nought, 2, disk)),
                         ((1, 0, 0), (1,), {0: (0, 0)}))
        disk = laid(W, R, (0, 1, 2), 2000)
        self.assertEqual((disk.used(), whole(W, 2, disk), disk.many_cells()), (8, (0, 1, 2), 2000))
        self.assertRaises(NoRoom, laid, W, R, (0, 1, 2), 7)

    def test_widths_one_and_twelve(self):
        for width in (1, 12):
            rows = (tuple(range(1, width + 1)), (250,) * width)
            web = web_of(251, rows, ((1, 0), (0, 1), (1, 1)))
            for lot in ((0, 1), (0, 2), (1, 2), (0, 1, 2)):
                disk = laid(web, rows, lot, 100)
                self.assertEqual((whole(web, width, disk), meaning(web, width, disk)), (lot, dict(enumerate(rows))))
                self.assertEqual((half(web, width, disk), cells_with(disk, 2 if 2 in lot else 1)[-1]),
                                 ((), oracle.size(web, lot) - 1))
        self.assertEqual((whole(web, 11, disk), half(web, 11, disk)), ((), (0, 1, 2)))


class WhatCounts(unittest.TestCase):

    def test_what_waits_does_not_count(self):
        disk = laid(W, R, (0, 2), 8)
        for cell in range(5):
            disk.write(cell, ())
        self.assertEqual((whole(W, 2, disk), half(W, 2, disk), meaning(W, 2, disk), cells_with(disk, 2)),
                         ((0, 2), (), {0: (1, 2), 1: (1, 3)}, (3, 4)))
        disk.reach(4)
        self.assertEqual((whole(W, 2, disk), half(W, 2, disk), meaning(W, 2, disk), cells_with(disk, 2)),
                         ((0,), (2,), {0: (1, 2)}, (3,)))
        disk.reach(3)
        self.assertEqual((half(W, 2, disk), cells_with(disk, 2)), ((), ()))

    def test_pieces_that_the_web_has_not(self):
        disk = disk_of([(3, 0, 0), (10 ** 6, 0, 0), (1, 0, 0)])
        self.assertEqual((whole(W, 2, disk), half(W, 2, disk), cells_with(disk, 3), cells_with(disk, 10 ** 6)),
                         ((1,), (), (0,), (1,)))

    def test_a_part_twice_and_great_numbers(self):
        self.assertEqual(half(W, 2, disk_of([(0, 0, 0), (0, 0, 0)])), (0,))
        self.assertEqual(half(W, 2, disk_of([(0, 0, 1), (0, 1, 10 ** 6)])), (0,))
        self.assertEqual(half(W, 2, disk_of([(0, 0, 10 ** 6)])), (0,))
        self.assertEqual(half(W, 2, disk_of([(0, 10 ** 6, 0), (0, 0, 0)])), (0,))
        self.assertEqual(half(W, 2, disk_of([(0, 1, 0)])), (0,))

    def test_one_function_of_what_lies_there(self):
        things = [(0, 0, 2), (0, 1, 1), (0, 2, 7), (2, 0, 1), (2, 1, 6)]
        for order in ((0, 1, 2, 3, 4), (4, 3, 2, 1, 0), (2, 4, 0, 3, 1)):
            disk = disk_of([things[at] for at in order])
            self.assertEqual((whole(W, 2, disk), half(W, 2, disk)), ((0, 2), ()))
            self.assertEqual(half(W, 2, disk_of([things[at] for at in order if at not in (1, 3)])), (0, 2))
            self.assertEqual(meaning(W, 2, disk), {0: (1, 2), 1: (1, 3)})
            self.assertEqual(meaning(W, 2, disk.copy()), meaning(W, 2, disk))

    def test_read_as_read_row_tells(self):
        # What lies there does not agree: piece 2 should tell (0, 1).
        things = [(0, 0, 2), (0, 1, 1), (0, 2, 7), (2, 0, 1), (2, 1, 7), (1, 0, 1), (1, 1, 4)]
        self.assertEqual(meaning(W, 2, disk_of(things)), {0: (1, 2), 1: (4, 0)})
        self.assertEqual(meaning(W, 2, disk_of(things[:5])), {0: (1, 2), 1: (1, 4)})


class WrongThings(unittest.TestCase):

    def test_no_number(self):
        disk = laid(W, R, (0, 2), 8)
        for thing in oracle.no_integers() + [-1, 0, 13, 10 ** 59]:
            for call in CALLS:
                self.assertRaises(NoNumber, call, W, thing, disk)
        for thing in oracle.many_things() + [10 ** 6 + 1, 10 ** 59]:
            self.assertRaises(NoNumber, cells_with, disk, thing)

    def test_no_rows(self):
        for thing in oracle.junk() + [((1, 2),), ((1, 2), (1, 5)), [(1, 2), (1, 3)], ((0, 0), (0, 0)), ((1, 2), (1, 2)),
                                      ((1,), (1,)), ((1, 2), (1, 0))]:
            self.assertRaises(NoRows, laid, W, thing, None, None)

    def test_no_keeping_bad_disk_no_room(self):
        lean = web_of(2, ((1,), (0,), (1,)), ((1, 0, 0), (0, 1, 0), (0, 0, 1)))
        for thing in oracle.no_keepings():
            self.assertRaises(NoKeeping, laid, lean, ((1,), (0,), (1,)), thing, None)
        for thing in oracle.no_integers() + [-1, 0, 2001, 10 ** 59]:
            self.assertRaises(BadDisk, laid, W, R, (0, 2), thing)
        for cells in (1, 4):
            with self.assertRaises(NoRoom) as caught:
                laid(W, R, (0, 2), cells)
            self.assertEqual(caught.exception.least, 5)

    def test_results_are_new_and_of_their_kinds(self):
        disk = laid(W, R, (0, 2), 8)
        for call in (lying_contents, meaning):
            found = call(W, 2, disk)
            found.clear()
            self.assertEqual(len(call(W, 2, disk)), 2)
        self.assertEqual([type(x) for x in (whole(W, 2, disk), half(W, 2, disk), cells_with(disk, 0), disk)],
                         [tuple, tuple, tuple, Disk])
        self.assertIsNot(laid(W, R, (0, 2), 8), disk)


class Examples(unittest.TestCase):

    def test_e09(self):
        r = ((1, 2), (1, 3))
        w = web_of(5, r, ((1, 0), (0, 1), (4, 1)))
        d = laid(w, r, (0, 2), 8)
        self.assertEqual((d.lying(3), d.used(), whole(w, 2, d), meaning(w, 2, d)),
                         ((2, 0, 1), 5, (0, 2), {0: (1, 2), 1: (1, 3)}))


if __name__ == "__main__":
    unittest.main()
