"""The store: a disk of laid pieces that is turned from one keeping into another, step by step."""

from lightfirst.basics import check_within
from lightfirst.contents import MOST_WIDTH, first_spoilt, read_row
from lightfirst.errors import NoRoom, Spoilt, Unread
from lightfirst.laid import halves_in, places_of, rows_told, things_lying, things_of, wholes_in
from lightfirst.room import least_room, plan_for


def things_read(disk):
    """The list of what the cells hold, what waits being taken as reached."""
    return [disk.read(cell) for cell in range(disk.many_cells())]


def check_whole(web, known):
    """Raises what is raised for whole pieces that do not tell all versions, or do not agree."""
    rows = rows_told(web, known)
    if None in rows:
        raise Unread(rows.index(None))
    closed = first_spoilt(web, known)
    if closed is not None:
        raise Spoilt(closed[-1])


def settle(web, width, disk):
    """Lets all that waits reach, and clears the cells of half pieces."""
    disk.calm()
    things = things_lying(disk)
    halves = halves_in(web, width, things)
    for cell, thing in enumerate(things):
        if thing != () and thing[0] in halves:
            disk.write(cell, ())
    disk.calm()


def writes_for(web, rows, things, step):
    """The list of the pairs (cell, thing) by which a step of a plan is done, of what the cells hold."""
    word, piece = step
    if word == "drop":
        return [(cell, ()) for cell in places_of(things, piece)]
    empty = [cell for cell, thing in enumerate(things) if thing == ()]
    return list(zip(empty, things_of(web, rows, piece)))


def steps_for(web, rows, things, plan):
    """The list of the store's steps for a plan, of what the cells hold."""
    held = list(things)
    found = []
    for step in plan:
        for cell, thing in writes_for(web, rows, held, step):
            held[cell] = thing
            found.append(("write", cell, thing))
        found.append(("calm",))
    return found


class Store:
    """A disk that is read and turned; a fall loses what waits, and the store is opened anew."""

    def __init__(self, web, width, disk):
        check_within(1, MOST_WIDTH, width)
        check_whole(web, wholes_in(web, width, things_read(disk)))
        settle(web, width, disk)
        self.web = web
        self.width = width
        self.held = disk
        self.aim = None
        self.steps = []
        self.done = 0

    def told(self):
        """The dict from the whole pieces to their contents, what waits being taken as reached."""
        return wholes_in(self.web, self.width, things_read(self.held))

    def whole(self):
        """The lot of the whole pieces, what waits being taken as reached."""
        return tuple(self.told())

    def room(self):
        """How many cells are empty, what waits being taken as reached."""
        return things_read(self.held).count(())

    def row(self, version):
        """The row of a version."""
        return read_row(self.web, self.told(), version)

    def rows(self):
        """The tuple of the rows of all versions."""
        return tuple(rows_told(self.web, self.told()))

    def turn(self, goal):
        """Lets the store turn what lies there into a keeping."""
        lot = self.whole()
        least = least_room(self.web, lot, goal)
        if self.held.many_cells() < least:
            raise NoRoom(least)
        settle(self.web, self.width, self.held)
        plan = plan_for(self.web, lot, goal)
        self.steps = steps_for(self.web, self.rows(), things_lying(self.held), plan)
        self.done = 0
        self.aim = goal

    def step(self):
        """Does the next step and returns it, None if nothing is left."""
        if self.left() == 0:
            return None
        step = self.steps[self.done]
        if step[0] == "calm":
            self.held.calm()
        else:
            self.held.write(step[1], step[2])
        self.done += 1
        return step

    def left(self):
        """How many steps are left."""
        return len(self.steps) - self.done

    def goal(self):
        """The goal, None without one."""
        return self.aim

    def run(self):
        """Does all steps that are left."""
        while self.left() > 0:
            self.step()

    def disk(self):
        """The disk that was opened."""
        return self.held
