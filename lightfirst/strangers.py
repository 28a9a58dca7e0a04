"""Movers of strangers: functions that tell one step after another, led and judged."""

from lightfirst.basics import check_within
from lightfirst.plans import behind, is_step, room_of
from lightfirst.room import MOST_ROOM, check_both, plan_for
from lightfirst.webs import size_of, unread

MOST_ASKINGS = 400


def next_lot(web, lot, step):
    """The lot behind what a mover told, None if it is no step that can be done."""
    if not is_step(len(web.pieces), step):
        return None
    return behind(lot, step)


def fault(web, after, room, number):
    """What is told of a step by the lot behind it, None if it is right."""
    if after is None:
        return ("wrong", number)
    if size_of(web, after) > room:
        return ("room", number)
    missing = unread(web, after)
    if len(missing) > 0:
        return ("harm", number, missing[0])
    return None


def lead(web, start, goal, room, most, mover):
    """What led tells, of arguments that are known to be right."""
    sizes = tuple([size for _, size in web.pieces])
    if size_of(web, start) > room:
        return ("room", -1)
    lot = start
    plan = []
    for number in range(most):
        step = mover((sizes, lot, goal, number))
        if step is None:
            return ("kept", tuple(plan)) if lot == goal else ("early", lot)
        after = next_lot(web, lot, step)
        wrong = fault(web, after, room, number)
        if wrong is not None:
            return wrong
        plan.append(step)
        lot = after
    return ("late", lot)


def led(web, start, goal, room, most, mover):
    """What comes of a mover that is asked for steps until it is done, in a room, and at most so many times."""
    check_both(web, start, goal)
    check_within(0, MOST_ROOM, room)
    check_within(1, MOST_ASKINGS, most)
    return lead(web, start, goal, room, most, mover)


def mover_for(web, start, goal):
    """A mover that turns the start into the goal in the least room."""
    plan = plan_for(web, start, goal)
    return lambda view: plan[view[3]] if view[3] < len(plan) else None


def least_needed(web, start, goal, mover, most):
    """The least room in which a mover comes to the goal, None if there is none."""
    check_both(web, start, goal)
    check_within(1, MOST_ASKINGS, most)
    # No view tells the room, so a mover tells the same steps in every room.
    found = lead(web, start, goal, MOST_ROOM, most, mover)
    if found[0] != "kept":
        return None
    return room_of(web, start, found[1])
