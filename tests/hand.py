"""A house led by hand: the words of point 13, with a disk and a store, and no look into lightfirst.house."""

from lightfirst.disk import Disk
from lightfirst.errors import Broken, NoneSafe, NoPiece
from lightfirst.laid import laid, meaning, whole
from lightfirst.losses import lightest_safe, safety
from lightfirst.room import least_room
from lightfirst.store import Store
from tests import oracle


def without_piece(disk, piece):
    """Another disk with what lies on this one, the cells of a piece empty; what waits is lost."""
    other = Disk(disk.many_cells())
    for cell in range(disk.many_cells()):
        if disk.lying(cell) and disk.lying(cell)[0] != piece:
            other.write(cell, disk.lying(cell))
    other.calm()
    return other.copy()


class Hand:
    """What a house should be, told by a disk and a store."""

    def __init__(self, web, rows, keeping, cells):
        self.web, self.width, self.cells = web, len(rows[0]), cells
        self.disk = laid(web, rows, keeping, cells)
        self.store = Store(web, self.width, self.disk)
        self.broken, self.gone, self.notes = False, [], []

    def lying(self):
        """The lot of what lies whole, what waits left aside."""
        return whole(self.web, self.width, self.disk)

    def safe_for(self):
        """How many pieces of what lies whole may be lost at once."""
        return safety(self.web, self.lying())

    def told(self):
        """The dict from the versions that are told by what lies whole to their rows."""
        return meaning(self.web, self.width, self.disk)

    def opened(self, disk, goal):
        """Opens a disk, and turns it to a goal if there is one and room for it."""
        self.disk, self.store = disk, Store(self.web, self.width, disk)
        if goal is not None and least_room(self.web, self.lying(), goal) <= self.cells:
            self.store.turn(goal)

    def stand(self):
        if self.broken:
            raise Broken()

    def whole(self):
        return self.lying() if self.broken else self.store.whole()

    def used(self):
        return len([cell for cell in range(self.cells) if self.disk.lying(cell) != ()])

    def row(self, version):
        self.stand()
        return self.store.row(version)

    def least_for(self, goal):
        self.stand()
        return least_room(self.web, self.store.whole(), goal)

    def turn(self, goal):
        self.stand()
        self.store.turn(goal)
        self.notes.append(("turn", goal))

    def lighten(self):
        self.stand()
        self.turn(oracle.greedy(self.web, range(len(self.web.pieces))))

    def strengthen(self, k):
        self.stand()
        goal = lightest_safe(self.web, k)
        if goal is None:
            raise NoneSafe()
        self.turn(goal)

    def work(self, many):
        self.stand()
        for _ in range(many):
            if self.store.step() is None:
                break
        return self.store.left()

    def goal(self):
        self.stand()
        return self.store.goal()

    def lose(self, piece):
        self.stand()
        if piece not in self.store.whole():
            raise NoPiece()
        goal = self.store.goal()
        self.disk = without_piece(self.disk, piece)
        self.gone = sorted(self.gone + [piece])
        self.notes.append(("lose", piece))
        missing = tuple(v for v in range(self.web.many) if v not in self.told())
        if missing:
            self.broken = True
        else:
            self.opened(self.disk, goal)
        return missing

    def lost(self):
        return self.gone

    def power(self, many):
        self.stand()
        self.disk.power(many)

    def rise(self):
        self.stand()
        goal = self.store.goal()
        self.opened(self.disk.copy(), goal)
        self.notes.append(("rise", self.lying()))
        return tuple(self.told())

    def book(self):
        return self.notes
