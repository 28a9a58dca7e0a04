"""The disk: cells, writes that wait until they reach them, and power that may end."""

from lightfirst.basics import check_within, is_within
from lightfirst.errors import BadDisk, NoCell, NothingWaits, NoThing, Stopped

MOST_CELLS = 2000
MOST_NUMBER = 1000000


def is_thing(thing):
    """Whether a thing is what a cell can hold: () or a triple of numbers up to 10 ** 6."""
    if not isinstance(thing, tuple) or len(thing) not in (0, 3):
        return False
    return all([is_within(0, MOST_NUMBER, number) for number in thing])


class Disk:
    """Cells with what lies in them and what waits for them, and how many writes more can reach."""

    def __init__(self, cells):
        if not is_within(1, MOST_CELLS, cells):
            raise BadDisk()
        self.things = [()] * cells
        # From cells to what waits for them, eldest first; nothing stands here for the others.
        self.queues = {}
        self.strength = None
        self.arrived = 0

    def check_cell(self, cell):
        """Raises what is raised for a cell."""
        if not is_within(0, len(self.things) - 1, cell):
            raise NoCell()

    def write(self, cell, thing):
        """Lets a thing wait for a cell."""
        self.check_cell(cell)
        if not is_thing(thing):
            raise NoThing()
        self.queues[cell] = self.queues.get(cell, []) + [thing]

    def read(self, cell):
        """What was written last into a cell."""
        self.check_cell(cell)
        if cell in self.queues:
            return self.queues[cell][-1]
        return self.things[cell]

    def lying(self, cell):
        """What lies in a cell."""
        self.check_cell(cell)
        return self.things[cell]

    def reach(self, cell):
        """Lets the eldest write that waits for a cell reach it."""
        self.check_cell(cell)
        if cell not in self.queues:
            raise NothingWaits()
        if self.strength == 0:
            raise Stopped()
        if self.strength is not None:
            self.strength -= 1
        self.arrived += 1
        self.things[cell] = self.queues[cell][0]
        self.queues[cell] = self.queues[cell][1:]
        if len(self.queues[cell]) == 0:
            del self.queues[cell]

    def calm(self):
        """Lets all that waits reach its cell, cell by cell."""
        cells = sorted(self.queues)
        for cell in cells:
            while cell in self.queues:
                self.reach(cell)

    def power(self, many):
        """Lets only so many writes more reach, any number for None."""
        if many is not None:
            check_within(0, MOST_NUMBER, many)
        self.strength = many

    def cut(self):
        """Loses all that waits, and brings the power back."""
        self.queues = {}
        self.strength = None

    def many_cells(self):
        """How many cells there are."""
        return len(self.things)

    def waiting(self):
        """The dict from cells for which something waits to how much."""
        return {cell: len(self.queues[cell]) for cell in sorted(self.queues)}

    def used(self):
        """How many cells do not lie empty."""
        return len([thing for thing in self.things if thing != ()])

    def reached(self):
        """How many writes have reached."""
        return self.arrived

    def copy(self):
        """Another disk with what lies here, nothing waiting, all power, and no write that has reached."""
        other = Disk(len(self.things))
        other.things = list(self.things)
        return other
