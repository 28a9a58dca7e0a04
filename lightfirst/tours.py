"""Pieces that help or weigh on a way, and tours through several keepings."""

from lightfirst.errors import NoTour
from lightfirst.room import check_both, least_room, plan_for, room_by
from lightfirst.webs import check_keeping, every_piece, is_keeping, size_of, without

MOST_STOPS = 8
MOST_LOTS = 6


def helpers(web, start, goal):
    """The lot of the pieces, of neither keeping, without which the least room is greater."""
    check_both(web, start, goal)
    every = every_piece(web)
    least = room_by(web, start, goal, every, ())
    others = [piece for piece in every if piece not in start and piece not in goal]
    return tuple([piece for piece in others if room_by(web, start, goal, without(every, piece), ()) > least])


def weighers(web, start, goal):
    """The lot of the pieces, of both keepings, by whose staying the least room grows greater."""
    check_both(web, start, goal)
    every = every_piece(web)
    least = room_by(web, start, goal, every, ())
    both = [piece for piece in start if piece in goal]
    return tuple([piece for piece in both if room_by(web, start, goal, every, (piece,)) > least])


def check_stops(web, fewest, most, thing):
    """Raises what is raised for a tuple of so many keepings."""
    if not isinstance(thing, tuple) or not fewest <= len(thing) <= most:
        raise NoTour(-1)
    for number, lot in enumerate(thing):
        if not is_keeping(web, lot):
            raise NoTour(number)


def neighbours_in(tour):
    """The list of the pairs of neighbours of a tour."""
    return list(zip(tour, tour[1:]))


def tour_room(web, tour):
    """The least room in which the keepings of a tour can be come to, one after the other."""
    check_stops(web, 1, MOST_STOPS, tour)
    rooms = [least_room(web, one, other) for one, other in neighbours_in(tour)]
    return max([size_of(web, tour[0])] + rooms)


def tour_plan(web, tour):
    """A plan that comes to the keepings of a tour, one after the other, in the least room."""
    check_stops(web, 1, MOST_STOPS, tour)
    steps = []
    for one, other in neighbours_in(tour):
        steps.extend(plan_for(web, one, other))
    return tuple(steps)


def best_order(web, start, lots):
    """The first of the orders of lots in which a tour from the start needs the least room."""
    check_keeping(web, start)
    check_stops(web, 0, MOST_LOTS, lots)
    # Each way can be gone back, so those that are together in a room are so by whatever stops: in a room that is
    # enough for one order each lot can be come to from each other one, and the first order is as good as all others.
    return tuple(range(len(lots)))
