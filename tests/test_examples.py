"""All examples of the document, e01 to e13, as they stand there."""

import unittest

from lightfirst.contents import web_of
from lightfirst.cuts import cut, cut_row
from lightfirst.disk import Disk
from lightfirst.floors import floor
from lightfirst.house import House
from lightfirst.laid import laid, meaning, whole
from lightfirst.leasts import exchanges, in_every, in_some, may_grow
from lightfirst.lightest import light_paper, lightest
from lightfirst.losses import harm_of, harms, lightest_safe, powers, room_to_mend, safety
from lightfirst.plans import harm, is_plan, room_of
from lightfirst.rings import all_rings, ring, ring_values
from lightfirst.room import is_bar, least_of, least_room, pressures
from lightfirst.spans import ladder, made_of, nought, rank
from lightfirst.store import Store
from lightfirst.tours import helpers
from lightfirst.webs import Web, is_keeping, lean_keepings, reading, unread


class Examples(unittest.TestCase):

    def test_e01(self):
        s = ((1, 0), (1, 4), (2, 1))
        self.assertEqual((rank(5, s), made_of(5, s, (0, 1)), ladder(5, s), nought(5, s)),
                         (2, (1, 4, 0), ((1, 0), (0, 1)), (2, 1, 1)))

    def test_e02_to_e04(self):
        w = Web(5, 2, (((1, 0), 10), ((0, 1), 10), ((1, 4), 3)))
        self.assertEqual((is_keeping(w, (0, 2)), reading(w, (0, 2), 1), unread(w, (2,)), lean_keepings(w)),
                         (True, ((0, 1), (2, 4)), (0, 1), [(0, 1), (0, 2), (1, 2)]))
        self.assertEqual((ring(w, (0, 2), 1), ring_values(w, (0, 1, 2)), cut(w, (0, 2), 0), cut_row(w, (0, 1)),
                          all_rings(w)), ((0, 1, 2), (1, 4, 4), (0, 1), (1, 1), [(0, 1, 2)]))
        self.assertEqual((lightest(w, (0, 1, 2)), light_paper(w, (0, 1, 2), (0, 2)), in_every(w, (0, 1, 2)),
                          in_some(w, (0, 1, 2)), may_grow(w, (0, 1, 2), 2), exchanges(w, (0, 2), (1, 2))),
                         ((0, 2), {1: (0, 1, 2)}, (2,), (0, 1, 2), 7, ((1, 0),)))

    def test_e05_and_e07(self):
        w = Web(3, 2, (((1, 0), 10), ((0, 1), 10), ((2, 1), 3)))
        self.assertEqual((least_room(w, (0, 2), (1, 2)), pressures(w, (0, 2), (1, 2))[1],
                          is_bar(w, (0, 2), (1, 2), 22, ("from", 10, (0, 2)))), (23, ("goal", 10, 23), True))
        self.assertEqual((is_plan(w, (0, 2), (1, 2), (("write", 1), ("drop", 0))),
                          room_of(w, (0, 2), (("write", 1), ("drop", 0))), harm(w, (0, 2), (("drop", 2),))),
                         (True, 23, (0, 1)))

    def test_e06(self):
        v = Web(3, 3, (((1, 0, 0), 10), ((0, 1, 0), 10), ((2, 1, 0), 3), ((0, 0, 1), 4), ((1, 0, 2), 2),
                       ((0, 1, 2), 2)))
        self.assertEqual((least_room(v, (0, 2, 4), (1, 2, 5)), least_of(v, (0, 2, 4), 10),
                          helpers(v, (0, 2, 4), (1, 2, 5)), floor(v, (0, 2, 4), 17)), (18, (3, 4, 5), (3,), (0, 4, 5)))

    def test_e08_to_e10(self):
        r = ((1, 2), (1, 3))
        w = web_of(5, r, ((1, 0), (0, 1), (4, 1)))
        self.assertEqual(w.pieces, (((1, 0), 3), ((0, 1), 3), ((4, 1), 2)))
        d = laid(w, r, (0, 2), 8)
        self.assertEqual((d.lying(3), d.used(), whole(w, 2, d), meaning(w, 2, d)),
                         ((2, 0, 1), 5, (0, 2), {0: (1, 2), 1: (1, 3)}))
        s = Store(w, 2, laid(w, r, (0, 2), 8))
        s.turn((1, 2))
        s.run()
        self.assertEqual((s.whole(), s.rows(), s.room(), s.left()), ((1, 2), ((1, 2), (1, 3)), 3, 0))

    def test_e11(self):
        d = Disk(2)
        d.write(0, (1, 0, 5))
        self.assertEqual((d.read(0), d.lying(0), d.waiting()), ((1, 0, 5), (), {0: 1}))

    def test_e12(self):
        w = powers(3, 2, 4, 5)
        self.assertEqual((safety(w, (0, 1, 2, 3)), harms(w, (0, 1, 2)), harm_of(w, (0, 1, 2), (2, 1)),
                          lightest_safe(w, 1), room_to_mend(w, (0, 1, 2), (1,), (0, 3))),
                         (2, [(0, 1), (0, 2), (1, 2)], (0, 2), (0, 1, 2), 15))

    def test_e13(self):
        w = Web(5, 2, (((1, 0), 2), ((0, 1), 2), ((3, 1), 1)))
        h = House(w, ((1,), (2,)), (0, 1), 6)
        self.assertEqual((h.least_for((0, 2)), h.lighten(), h.work(100), h.whole(), h.used(), h.row(1)),
                         (5, None, 0, (0, 2), 3, (2,)))


if __name__ == "__main__":
    unittest.main()
