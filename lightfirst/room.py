"""The least room in which one keeping can be turned into another, bars that show it, and plans that need no more."""

from lightfirst.basics import check_within, is_integer
from lightfirst.errors import NoSome, NoStay
from lightfirst.lightest import ordered
from lightfirst.plans import stands, turned_back
from lightfirst.webs import check_keeping, every_piece, has_all, is_lot_of, size_at, size_of, taken

MOST_ROOM = 1000000000


def check_both(web, start, goal):
    """Raises what is raised for a start and a goal."""
    check_keeping(web, start)
    check_keeping(web, goal)


def check_told(web, some, stay, lots):
    """Raises what is raised for the pieces that may be used, and those that have to stay, all of the lots."""
    if not is_lot_of(web, some) or not all([has_all(some, lot) for lot in lots]):
        raise NoSome()
    if not is_lot_of(web, stay) or not all([has_all(lot, stay) for lot in lots]):
        raise NoStay()


def lightest_by(web, pieces, stay):
    """All of stay, and those of the pieces that, by their order, are not made of stay and those taken ahead."""
    others = [piece for piece in ordered(web, pieces) if piece not in stay]
    kept = [piece for piece in taken(web, list(stay) + others) if piece not in stay]
    return tuple(sorted(list(stay) + kept))


def least_by(web, lot, bound, some, stay):
    """What least_staying tells, of arguments that are known to be right."""
    pieces = [piece for piece in some if piece in lot or size_at(web, piece) < bound]
    return lightest_by(web, pieces, stay)


def least_of(web, lot, bound):
    """The lightest keeping of a keeping and all pieces whose size is less than the bound."""
    check_keeping(web, lot)
    check_within(0, MOST_ROOM, bound)
    return least_by(web, lot, bound, every_piece(web), ())


def least_staying(web, lot, bound, some, stay):
    """The lightest keeping with all of stay, of a keeping and those of some whose size is less than the bound."""
    check_keeping(web, lot)
    check_within(0, MOST_ROOM, bound)
    check_told(web, some, stay, (lot,))
    return least_by(web, lot, bound, some, stay)


def greatest_new(web, lot, other):
    """The greatest size of the pieces of the other that are not of the lot, 0 if there are none."""
    return max([size_at(web, piece) for piece in other if piece not in lot], default=0)


def hurdles(web, word, lot, other, some, stay):
    """The list, by ascending sizes, of the bars of one side, each with the least room to which it is none."""
    top = greatest_new(web, lot, other)
    sizes = sorted({size_at(web, piece): True for piece in some if size_at(web, piece) <= top})
    least = [least_by(web, lot, size, some, stay) for size in sizes]
    return [((word, size, kept), size + size_of(web, kept)) for size, kept in zip(sizes, least)]


def all_hurdles(web, start, goal, some, stay):
    """The list of all that can be bars, each with the least room to which it is none."""
    ends = [(("start",), size_of(web, start)), (("goal",), size_of(web, goal))]
    there = hurdles(web, "from", start, goal, some, stay)
    return ends + there + hurdles(web, "back", goal, start, some, stay)


def room_by(web, start, goal, some, stay):
    """What least_room_by tells, of arguments that are known to be right."""
    return max([needed for _, needed in all_hurdles(web, start, goal, some, stay)])


def bars_to(web, start, goal, some, stay, room):
    """The list of all bars to a room."""
    return [told for told, needed in all_hurdles(web, start, goal, some, stay) if needed > room]


def first_bar(web, start, goal, some, stay, room):
    """What bar_by tells, of arguments that are known to be right."""
    found = bars_to(web, start, goal, some, stay, room)
    if len(found) == 0:
        return None
    return found[0]


def has_form(web, thing):
    """Whether a thing is a tuple of a word, and perhaps an integer and a lot behind it."""
    if not isinstance(thing, tuple) or len(thing) not in (1, 3) or not isinstance(thing[0], str):
        return False
    return len(thing) == 1 or (is_integer(thing[1]) and is_lot_of(web, thing[2]))


def pressures(web, start, goal):
    """The ascending list of the triples (side, size, pressure)."""
    check_both(web, start, goal)
    every = every_piece(web)
    found = []
    for side, lot, other in (("goal", goal, start), ("start", start, goal)):
        found.extend([(side, told[1], needed) for told, needed in hurdles(web, side, lot, other, every, ())])
    return found


def least_room(web, start, goal):
    """The least room in which the start can be turned into the goal."""
    check_both(web, start, goal)
    return room_by(web, start, goal, every_piece(web), ())


def least_room_by(web, start, goal, some, stay):
    """The least room in which this can be done with pieces of some alone, all of stay staying."""
    check_both(web, start, goal)
    check_told(web, some, stay, (start, goal))
    return room_by(web, start, goal, some, stay)


def dropped(lot, kept):
    """The list of the steps that drop those pieces of a lot that are not kept."""
    return [("drop", piece) for piece in lot if piece not in kept]


def climb(web, lot, top, some, stay):
    """The tuple of the steps from a keeping to the lightest one out of it and all of some whose size is at most top.

    Piece by piece, by their order, each is written that is not made of lighter ones, and what it makes needless is
    dropped: so nothing is written while more lies there than has to.
    """
    kept = least_by(web, lot, 0, some, stay)
    steps = dropped(lot, kept)
    pieces = [piece for piece in some if piece not in lot and size_at(web, piece) <= top]
    for piece in ordered(web, pieces):
        after = lightest_by(web, kept + (piece,), stay)
        if piece in after:
            steps.append(("write", piece))
            steps.extend(dropped(kept, after))
            kept = after
    return tuple(steps)


def way_by(web, start, goal, some, stay):
    """What plan_by tells, of arguments that are known to be right."""
    # Above both sizes no piece of the one is missing in the other, so both ways end at the same keeping.
    top = max(greatest_new(web, start, goal), greatest_new(web, goal, start))
    there = climb(web, start, top, some, stay)
    back = climb(web, goal, top, some, stay)
    places = {lot: number for number, lot in enumerate(stands(goal, back))}
    met = [(number, places[lot]) for number, lot in enumerate(stands(start, there)) if lot in places]
    number, other = met[0]
    return there[:number] + turned_back(back[:other])


def plan_for(web, start, goal):
    """A plan that turns the start into the goal in the least room."""
    check_both(web, start, goal)
    return way_by(web, start, goal, every_piece(web), ())


def plan_by(web, start, goal, some, stay):
    """A plan that does so in the least room with pieces of some alone, all of stay staying."""
    check_both(web, start, goal)
    check_told(web, some, stay, (start, goal))
    return way_by(web, start, goal, some, stay)


def plan_within(web, start, goal, room):
    """A plan whose room is not greater than this one, None if there is none."""
    check_both(web, start, goal)
    check_within(0, MOST_ROOM, room)
    if room < least_room(web, start, goal):
        return None
    return plan_for(web, start, goal)


def bar(web, start, goal, room):
    """A bar to a room, None if there is none."""
    check_both(web, start, goal)
    check_within(0, MOST_ROOM, room)
    return first_bar(web, start, goal, every_piece(web), (), room)


def bar_by(web, start, goal, some, stay, room):
    """A bar to a room with pieces of some alone, all of stay staying; None if there is none."""
    check_both(web, start, goal)
    check_told(web, some, stay, (start, goal))
    check_within(0, MOST_ROOM, room)
    return first_bar(web, start, goal, some, stay, room)


def is_bar(web, start, goal, room, thing):
    """Whether a thing is a bar to a room."""
    check_both(web, start, goal)
    check_within(0, MOST_ROOM, room)
    return has_form(web, thing) and thing in bars_to(web, start, goal, every_piece(web), (), room)


def is_bar_by(web, start, goal, some, stay, room, thing):
    """Whether a thing is a bar to a room with pieces of some alone, all of stay staying."""
    check_both(web, start, goal)
    check_told(web, some, stay, (start, goal))
    check_within(0, MOST_ROOM, room)
    return has_form(web, thing) and thing in bars_to(web, start, goal, some, stay, room)
