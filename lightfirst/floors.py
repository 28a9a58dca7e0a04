"""Floors: the lightest keepings that can be come to within a room."""

from lightfirst.basics import check_within
from lightfirst.errors import NoRoom, TooMany
from lightfirst.lightest import lightest
from lightfirst.room import MOST_ROOM, check_both, hurdles, least_by, least_room
from lightfirst.webs import check_keeping, every_piece, lean_keepings, size_at, size_of

MOST_PIECES = 12


def check_fits(web, lot, room):
    """Raises what is raised for a room that is less than a lot's size."""
    if room < size_of(web, lot):
        raise NoRoom(size_of(web, lot))


def height(web, lot, room):
    """The greatest size of a piece up to which all can be written in the room, 0 if there is none."""
    every = every_piece(web)
    greatest = 0
    for size in sorted({size_at(web, piece): True for piece in every}):
        if size + size_of(web, least_by(web, lot, size, every, ())) > room:
            return greatest
        greatest = size
    return greatest


def floor_of(web, lot, room):
    """What floor tells, of arguments that are known to be right."""
    return least_by(web, lot, height(web, lot, room) + 1, every_piece(web), ())


def floor(web, lot, room):
    """The floor of a keeping in a room."""
    check_keeping(web, lot)
    check_within(0, MOST_ROOM, room)
    check_fits(web, lot, room)
    return floor_of(web, lot, room)


def is_together(web, one, other, room):
    """Whether one keeping can be turned into another within a room."""
    check_both(web, one, other)
    check_within(0, MOST_ROOM, room)
    check_fits(web, one, room)
    check_fits(web, other, room)
    return least_room(web, one, other) <= room


def floors(web, room):
    """The ascending list of the floors of all keepings that fit into a room."""
    check_within(0, MOST_ROOM, room)
    if len(web.pieces) > MOST_PIECES:
        raise TooMany(MOST_PIECES)
    # A keeping has the floor of the lightest one in it, so the lean ones have all floors.
    fitting = [lot for lot in lean_keepings(web) if size_of(web, lot) <= room]
    return sorted({floor_of(web, lot, room): True for lot in fitting})


def sill(web, lot):
    """The least room in which a keeping's floor is the lightest keeping of the web."""
    check_keeping(web, lot)
    every = every_piece(web)
    # The floor is that one as soon as all of its pieces that are still missing can be written.
    needed = [least for _, least in hurdles(web, "from", lot, lightest(web, every), every, ())]
    return max([size_of(web, lot)] + needed)
