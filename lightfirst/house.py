"""The house: a disk led by a store, that is turned while pieces are lost and the power fails."""

from lightfirst.basics import check_within
from lightfirst.disk import MOST_NUMBER
from lightfirst.errors import Broken, NoneSafe, NoPiece
from lightfirst.laid import cells_with, laid
from lightfirst.lightest import lightest
from lightfirst.losses import lightest_safe
from lightfirst.room import least_room
from lightfirst.store import Store
from lightfirst.webs import can_read, every_piece, is_piece, unread


def empty_cells(disk, piece):
    """Loses all that waits, and empties the cells of a piece."""
    disk.cut()
    cells = cells_with(disk, piece)
    for cell in cells:
        disk.write(cell, ())
    disk.calm()


class House:
    """Rows that lie on a disk by pieces, the store that turns it, and a book of what befell it."""

    def __init__(self, web, rows, keeping, cells):
        disk = laid(web, rows, keeping, cells)
        self.web = web
        self.width = len(rows[0])
        self.store = Store(web, self.width, disk)
        self.ruined = False
        self.gone = []
        self.notes = []

    def check_stands(self):
        """Raises what is raised for a broken house."""
        if self.ruined:
            raise Broken()

    def reopen(self):
        """Opens the disk anew, and turns it to the goal again if there is room: behind a fall there always is."""
        disk = self.store.disk()
        goal = self.store.goal()
        self.store = Store(self.web, self.width, disk)
        if goal is not None and least_room(self.web, self.whole(), goal) <= disk.many_cells():
            self.store.turn(goal)

    def row(self, version):
        """The row of a version."""
        self.check_stands()
        return self.store.row(version)

    def whole(self):
        """The lot of the whole pieces, what waits being taken as reached."""
        return self.store.whole()

    def used(self):
        """How many cells do not lie empty."""
        return self.store.disk().used()

    def least_for(self, goal):
        """The least room from what is whole to a keeping."""
        self.check_stands()
        return least_room(self.web, self.whole(), goal)

    def turn(self, goal):
        """Lets the house be turned into a keeping."""
        self.check_stands()
        self.store.turn(goal)
        self.notes.append(("turn", goal))

    def lighten(self):
        """Lets the house be turned into the lightest of all keepings."""
        self.turn(lightest(self.web, every_piece(self.web)))

    def strengthen(self, k):
        """Lets the house be turned into the lightest lot that is safe when k pieces are lost."""
        self.check_stands()
        goal = lightest_safe(self.web, k)
        if goal is None:
            raise NoneSafe()
        self.turn(goal)

    def work(self, many):
        """Does so many steps, or as many as are left; how many are left then."""
        self.check_stands()
        check_within(0, MOST_NUMBER, many)
        for _ in range(min(many, self.store.left())):
            self.store.step()
        return self.store.left()

    def goal(self):
        """The goal, None without one."""
        self.check_stands()
        return self.store.goal()

    def lose(self, piece):
        """Loses a whole piece; the lot of the versions that can be read no more."""
        self.check_stands()
        if not is_piece(self.web, piece) or piece not in self.whole():
            raise NoPiece()
        empty_cells(self.store.disk(), piece)
        self.gone.append(piece)
        self.notes.append(("lose", piece))
        missing = unread(self.web, self.whole())
        if len(missing) > 0:
            self.ruined = True
        else:
            self.reopen()
        return missing

    def lost(self):
        """The ascending list of the pieces that were lost, as often as they were."""
        return sorted(self.gone)

    def power(self, many):
        """Lets only so many writes more reach, any number for None."""
        self.check_stands()
        self.store.disk().power(many)

    def rise(self):
        """Stands up behind a fall, and goes on to the goal; the lot of the versions that can be read."""
        self.check_stands()
        self.store.disk().cut()
        self.reopen()
        self.notes.append(("rise", self.whole()))
        return can_read(self.web, self.whole())

    def book(self):
        """The list of the turnings, losses and rises, as pairs with the goal, the piece, or what was whole."""
        return list(self.notes)
