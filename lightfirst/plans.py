"""Plans: steps that write and drop pieces, their moments, and steps that can be left out."""

from lightfirst.basics import is_within
from lightfirst.errors import BadPlan, NoPlan, Undone
from lightfirst.idle import Course
from lightfirst.webs import MOST_PIECES, check_keeping, is_keeping, size_of, unread, without

MOST_STEPS = 2000
OTHER_WORDS = {"write": "drop", "drop": "write"}


def is_step(many, thing):
    """Whether a thing is a step with one of so many pieces."""
    if not isinstance(thing, tuple) or len(thing) != 2:
        return False
    return isinstance(thing[0], str) and thing[0] in OTHER_WORDS and is_within(0, many - 1, thing[1])


def first_wrong(many, thing):
    """None for a plan with so many pieces, else the number that NoPlan tells."""
    if not isinstance(thing, tuple) or len(thing) > MOST_STEPS:
        return -1
    for number, step in enumerate(thing):
        if not is_step(many, step):
            return number
    return None


def check_plan(web, start, plan):
    """Raises what is raised for a start and a plan."""
    check_keeping(web, start)
    wrong = first_wrong(len(web.pieces), plan)
    if wrong is not None:
        raise NoPlan(wrong)


def behind(lot, step):
    """The lot behind a step, None if the step can't be done."""
    word, piece = step
    if (word == "write") == (piece in lot):
        return None
    if word == "drop":
        return without(lot, piece)
    return tuple(sorted(lot + (piece,)))


def stands(lot, plan):
    """The list of the moments of a plan, up to the first step that can't be done."""
    found = [lot]
    for step in plan:
        after = behind(found[-1], step)
        if after is None:
            return found
        found.append(after)
    return found


def moments(web, start, plan):
    """The list of the moments of a plan."""
    check_plan(web, start, plan)
    found = stands(start, plan)
    if len(found) <= len(plan):
        raise Undone(len(found) - 1)
    return found


def first_harm(web, start, plan):
    """What harm tells, of a start and a plan that are known to be right."""
    found = stands(start, plan)
    for number, lot in enumerate(found):
        # What is written takes no version away.
        if number > 0 and plan[number - 1][0] == "drop" and not is_keeping(web, lot):
            return (number - 1, unread(web, lot)[0])
    if len(found) <= len(plan):
        return (len(found) - 1, None)
    return None


def harm(web, start, plan):
    """None if a plan holds, else the pair (number, version) of the first step that can't be done, or does harm."""
    check_plan(web, start, plan)
    return first_harm(web, start, plan)


def room_of(web, start, plan):
    """The greatest size of the moments of a plan."""
    return max([size_of(web, lot) for lot in moments(web, start, plan)])


def end_of(web, start, plan):
    """The last moment of a plan."""
    return moments(web, start, plan)[-1]


def is_plan(web, start, goal, thing):
    """Whether a thing is a plan that holds from the start and ends at the goal."""
    check_keeping(web, start)
    check_keeping(web, goal)
    if first_wrong(len(web.pieces), thing) is not None or first_harm(web, start, thing) is not None:
        return False
    return stands(start, thing)[-1] == goal


def turned_back(plan):
    """The steps backwards, write and drop exchanged."""
    if first_wrong(MOST_PIECES, plan) is not None:
        raise BadPlan()
    return tuple([(OTHER_WORDS[word], piece) for word, piece in reversed(plan)])


def idle_pairs(web, start, plan):
    """The ascending tuple of the pairs of steps of one piece that a plan can do without."""
    lots = moments(web, start, plan)
    return tuple(Course(web, plan, lots).idle_ones())


def leaned(web, start, plan):
    """The plan without the pairs of steps that it can do without, the first one taken out again and again."""
    course = Course(web, plan, moments(web, start, plan))
    pair = course.first_idle()
    while pair is not None:
        first, last = pair
        course.take_out(first, last)
        pair = course.first_idle()
    return course.plan
