"""Point 9.1: the disk."""

import unittest
from itertools import product
from random import Random

from lightfirst.disk import Disk
from lightfirst.errors import BadDisk, KeepError, NoCell, NoNumber, NothingWaits, NoThing, Stopped
from tests import oracle

A, B = (1, 0, 5), (2, 3, 4)
GREATEST = 10 ** 6


class Model:
    """A disk told by the list of its writes, each with whether it has reached."""

    def __init__(self, cells):
        self.cells, self.log, self.strength, self.count = cells, [], None, 0

    def of(self, cell):
        return [entry for entry in self.log if entry[0] == cell]

    def waits(self, cell):
        return [entry for entry in self.of(cell) if not entry[2]]

    def write(self, cell, thing):
        self.log.append([cell, thing, False])

    def read(self, cell):
        return self.of(cell)[-1][1] if self.of(cell) else ()

    def lying(self, cell):
        reached = [thing for _, thing, done in self.of(cell) if done]
        return reached[-1] if reached else ()

    def reach(self, cell):
        if not self.waits(cell):
            raise NothingWaits()
        if self.strength == 0:
            raise Stopped()
        self.waits(cell)[0][2] = True
        self.count += 1
        self.strength = None if self.strength is None else self.strength - 1

    def calm(self):
        for cell in range(self.cells):
            while self.waits(cell):
                self.reach(cell)

    def power(self, many):
        self.strength = many

    def cut(self):
        self.log = [entry for entry in self.log if entry[2]]
        self.strength = None

    def state(self):
        cells = range(self.cells)
        return ([self.read(cell) for cell in cells], [self.lying(cell) for cell in cells],
                {cell: len(self.waits(cell)) for cell in cells if self.waits(cell)},
                len([cell for cell in cells if self.lying(cell) != ()]), self.count, self.cells)


def state(disk):
    """All that a disk tells."""
    cells = range(disk.many_cells())
    return ([disk.read(cell) for cell in cells], [disk.lying(cell) for cell in cells], disk.waiting(), disk.used(),
            disk.reached(), disk.many_cells())


def done(call, *told):
    """What a call returns, or the class of its error."""
    try:
        return call(*told)
    except KeepError as error:
        return type(error)


DEEDS = [("write", 0, A), ("write", 0, ()), ("write", 1, B), ("reach", 0), ("reach", 1), ("calm",), ("power", 1),
         ("power", None), ("cut",)]


class AgainstTheModel(unittest.TestCase):

    def check(self, cells, deeds):
        disk, model = Disk(cells), Model(cells)
        for name, *told in deeds:
            found = done(getattr(disk, name), *told)
            self.assertIs(found, done(getattr(model, name), *told))
            self.assertEqual(state(disk), model.state())
        return disk

    def test_all_short_runs(self):
        for many in range(5):
            for deeds in product(DEEDS, repeat=many):
                self.check(2, deeds)

    def test_long_runs(self):
        chance = Random(9)
        things = [(), A, B, (0, 0, 0), (7, 1, 2)]
        for _ in range(60):
            deeds = []
            for _ in range(80):
                cell = chance.randrange(4)
                deeds.append(chance.choice([("write", cell, chance.choice(things))] * 6 + [("reach", cell)] * 4 + [
                    ("calm",), ("power", chance.randrange(6)), ("power", None), ("cut",)]))
            self.check(4, deeds)


class Methods(unittest.TestCase):

    def test_a_new_disk(self):
        for cells in (1, 7, 2000):
            disk = Disk(cells)
            self.assertEqual(state(disk), ([()] * cells, [()] * cells, {}, 0, 0, cells))
            disk.write(cells - 1, A)
            disk.calm()
            self.assertEqual((disk.lying(cells - 1), disk.reached()), (A, 1))

    def test_writes_of_one_cell_reach_in_their_order(self):
        disk = Disk(1)
        for thing in (A, B, ()):
            disk.write(0, thing)
        self.assertEqual((disk.read(0), disk.lying(0), disk.waiting()), ((), (), {0: 3}))
        for thing, left in ((A, {0: 2}), (B, {0: 1}), ((), {})):
            disk.reach(0)
            self.assertEqual((disk.lying(0), disk.waiting()), (thing, left))

    def test_cells_reach_in_any_order(self):
        disk = Disk(3)
        for cell in range(3):
            disk.write(cell, (cell, 0, 0))
        disk.reach(2)
        disk.reach(0)
        self.assertEqual([disk.lying(cell) for cell in range(3)], [(0, 0, 0), (), (2, 0, 0)])
        self.assertEqual((disk.waiting(), disk.used(), disk.reached()), ({1: 1}, 2, 2))

    def test_power_ends_within_a_calm(self):
        disk = Disk(4)
        for cell in (3, 1, 1, 0):
            disk.write(cell, (cell, 0, 0))
        disk.power(2)
        self.assertRaises(Stopped, disk.calm)
        self.assertEqual([disk.lying(cell) for cell in range(4)], [(0, 0, 0), (1, 0, 0), (), ()])
        self.assertEqual((disk.waiting(), disk.reached()), ({1: 1, 3: 1}, 2))
        self.assertRaises(Stopped, disk.calm)
        self.assertRaises(Stopped, disk.reach, 3)
        disk.power(1)
        disk.reach(3)
        self.assertRaises(Stopped, disk.reach, 1)
        self.assertEqual((disk.waiting(), disk.reached()), ({1: 1}, 3))

    def test_cut_brings_power_back(self):
        disk = Disk(2)
        disk.power(0)
        disk.write(0, A)
        self.assertRaises(Stopped, disk.reach, 0)
        disk.cut()
        self.assertEqual(state(disk), ([(), ()], [(), ()], {}, 0, 0, 2))
        for _ in range(5):
            disk.write(1, B)
        disk.calm()
        self.assertEqual((disk.reached(), disk.used()), (5, 1))

    def test_power_of_nought_lets_a_calm_be_if_nothing_waits(self):
        disk = Disk(1)
        disk.power(0)
        self.assertIsNone(disk.calm())
        disk.power(GREATEST)
        disk.power(None)
        disk.write(0, A)
        self.assertIsNone(disk.calm())

    def test_copy(self):
        disk = Disk(2)
        disk.write(0, A)
        disk.calm()
        disk.write(0, B)
        disk.write(1, B)
        disk.power(0)
        other = disk.copy()
        self.assertIs(type(other), Disk)
        self.assertEqual(state(other), ([A, ()], [A, ()], {}, 1, 0, 2))
        other.write(1, A)
        other.calm()
        self.assertEqual((disk.lying(1), disk.read(1), other.reached()), ((), B, 1))
        disk.power(None)
        disk.calm()
        self.assertEqual((other.lying(0), other.lying(1)), (A, A))

    def test_equal_to_itself_alone(self):
        disk = Disk(2)
        self.assertTrue(disk == disk)
        self.assertFalse(disk == disk.copy())
        self.assertFalse(disk == Disk(2))
        for thing in oracle.junk():
            self.assertFalse(disk == thing)

    def test_what_is_returned_is_new(self):
        disk = Disk(2)
        disk.write(0, A)
        told = disk.waiting()
        told[0] = 9
        told[1] = 1
        self.assertEqual(disk.waiting(), {0: 1})
        self.assertIsNot(disk.waiting(), disk.waiting())

    def test_others_return_none(self):
        disk = Disk(1)
        self.assertEqual([disk.write(0, A), disk.reach(0), disk.calm(), disk.power(3), disk.power(None), disk.cut()],
                         [None] * 6)
        self.assertEqual([type(x) for x in (disk.many_cells(), disk.used(), disk.reached())], [int] * 3)


class WrongThings(unittest.TestCase):

    def test_bad_disk(self):
        for thing in oracle.no_integers() + [-1, 0, 2001, 10 ** 59]:
            self.assertRaises(BadDisk, Disk, thing)

    def test_no_cell(self):
        disk = Disk(3)
        for thing in oracle.no_integers() + [-1, 3, 10 ** 59]:
            for call in (disk.read, disk.lying, disk.reach):
                self.assertRaises(NoCell, call, thing)
            self.assertRaises(NoCell, disk.write, thing, None)
        self.assertEqual(state(disk), state(Disk(3)))

    def test_no_thing(self):
        disk = Disk(1)
        wrong = [x for x in oracle.junk() if x != ()] + [0, (1,), (1, 2), (1, 2, 3, 4), [1, 2, 3], (1, 2, -1),
                                                         (1, True, 3), (GREATEST + 1, 0, 0), (0, GREATEST + 1, 0),
                                                         (0, 0, GREATEST + 1), (1, 2, "3"), (1, 2, (3,)), ((), (), ())]
        for thing in wrong:
            self.assertRaises(NoThing, disk.write, 0, thing)
        self.assertEqual(disk.waiting(), {})
        for thing in ((), (0, 0, 0), (GREATEST, GREATEST, GREATEST)):
            disk.write(0, thing)
            self.assertEqual(disk.read(0), thing)

    def test_nothing_waits_then_stopped(self):
        disk = Disk(1)
        disk.power(0)
        self.assertRaises(NoCell, disk.reach, 1)
        self.assertRaises(NothingWaits, disk.reach, 0)
        disk.write(0, A)
        self.assertRaises(Stopped, disk.reach, 0)
        self.assertEqual((disk.lying(0), disk.read(0), disk.waiting(), disk.reached()), ((), A, {0: 1}, 0))

    def test_no_number(self):
        disk = Disk(1)
        disk.power(0)
        for thing in [x for x in oracle.many_things() if x is not None] + [GREATEST + 1, 10 ** 59]:
            self.assertRaises(NoNumber, disk.power, thing)
        disk.write(0, A)
        self.assertRaises(Stopped, disk.calm)


class Examples(unittest.TestCase):

    def test_e11(self):
        d = Disk(2)
        d.write(0, (1, 0, 5))
        self.assertEqual((d.read(0), d.lying(0), d.waiting()), ((1, 0, 5), (), {0: 1}))


if __name__ == "__main__":
    unittest.main()
