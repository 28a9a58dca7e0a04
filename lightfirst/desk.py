"""The desk: a house that is led by lines, and told of by strings."""

from lightfirst.errors import KeepError, NoSaying, NoTale
from lightfirst.house import House
from lightfirst.room import bar, plan_for
from lightfirst.texts import are_figures, commas, is_figures, numbers_of

DONE = "ok"
NOTHING = "none"
DASH = "-"


def spaced(words):
    """Words with blanks between, none for none."""
    if len(words) == 0:
        return NOTHING
    return " ".join(words)


def numbers_told(numbers):
    """Numbers with blanks between, none for none."""
    return spaced([str(number) for number in numbers])


def step_told(step):
    """A step's piece behind + for write, - for drop."""
    word, piece = step
    sign = "+" if word == "write" else "-"
    return sign + str(piece)


def bar_told(found):
    """A bar's word, then, if it has them, its size and its lot; none for None."""
    if found is None:
        return NOTHING
    if len(found) == 1:
        return found[0]
    word, size, lot = found
    # The lot of a bar is a keeping, so there always are numbers of it.
    return spaced([word, str(size), commas(lot)])


def say_turn(desk, lot):
    """Turns the house."""
    desk.house.turn(lot)
    return DONE


def say_lighten(desk):
    """Turns the house to the lightest keeping."""
    desk.house.lighten()
    return DONE


def say_strengthen(desk, k):
    """Turns the house to the lightest lot that is safe when k pieces are lost."""
    desk.house.strengthen(k)
    return DONE


def say_work(desk, many):
    """Does so many steps, and tells how many are left."""
    return str(desk.house.work(many))


def say_row(desk, version):
    """Tells the numbers of a row."""
    return numbers_told(desk.house.row(version))


def say_whole(desk):
    """Tells what is whole."""
    return numbers_told(desk.house.whole())


def say_goal(desk):
    """Tells the goal."""
    goal = desk.house.goal()
    if goal is None:
        return NOTHING
    return numbers_told(goal)


def say_lost(desk):
    """Tells what was lost."""
    return numbers_told(desk.house.lost())


def say_used(desk):
    """Tells how many cells do not lie empty."""
    return str(desk.house.used())


def say_least(desk, lot):
    """Tells the least room to a keeping."""
    return str(desk.house.least_for(lot))


def say_plan(desk, lot):
    """Tells the steps of a plan to a keeping."""
    # What the house raises for the lot comes first.
    desk.house.least_for(lot)
    return spaced([step_told(step) for step in plan_for(desk.web, desk.house.whole(), lot)])


def say_bar(desk, lot, room):
    """Tells a bar to a room on the way to a keeping."""
    desk.house.least_for(lot)
    return bar_told(bar(desk.web, desk.house.whole(), lot, room))


def say_lose(desk, piece):
    """Loses a piece, and tells the versions that can be read no more."""
    return numbers_told(desk.house.lose(piece))


def say_rise(desk):
    """Stands up behind a fall, and tells the versions that can be read."""
    return numbers_told(desk.house.rise())


def say_power(desk, many):
    """Lets only so many writes more reach."""
    desk.house.power(many)
    return DONE


# What is said, and the forms of the words that stand behind.
SAYINGS = {"turn": say_turn, "lighten": say_lighten, "strengthen": say_strengthen, "work": say_work, "row": say_row,
           "whole": say_whole, "goal": say_goal, "lost": say_lost, "used": say_used, "least": say_least,
           "plan": say_plan, "bar": say_bar, "lose": say_lose, "rise": say_rise, "power": say_power}
FORMS = {"turn": ("lot",), "lighten": (), "strengthen": ("number",), "work": ("number",), "row": ("number",),
         "whole": (), "goal": (), "lost": (), "used": (), "least": ("lot",),
         "plan": ("lot",), "bar": ("lot", "number"), "lose": ("number",), "rise": (), "power": ("number or none",)}


def has_form(form, word):
    """Whether a word has a form."""
    if form == "lot":
        return word == DASH or are_figures(word)
    return is_figures(word) or (word == DASH and form == "number or none")


def worth(form, word):
    """What a word of a form tells: a lot as it stands, a number, or None."""
    if form == "lot":
        return () if word == DASH else numbers_of(word)
    return None if word == DASH else int(word)


def is_saying(words):
    """Whether the words of a line have the form of a saying."""
    if words[0] not in FORMS:
        return False
    forms = FORMS[words[0]]
    return len(words) == len(forms) + 1 and all([has_form(form, word) for form, word in zip(forms, words[1:])])


class Desk:
    """A house, and how it is led by lines."""

    def __init__(self, web, rows, keeping, cells):
        self.house = House(web, rows, keeping, cells)
        self.web = web

    def tell(self, line):
        """Does what a line says, and returns what is told of it."""
        if not isinstance(line, str):
            raise NoSaying()
        words = line.split(" ")
        if not is_saying(words):
            raise NoSaying()
        action = SAYINGS[words[0]]
        told = [worth(form, word) for form, word in zip(FORMS[words[0]], words[1:])]
        return action(self, *told)


def answer(desk, line):
    """What a desk tells to a line, or the name of the error that it raises, in parentheses."""
    try:
        return desk.tell(line)
    except KeepError as why:
        name = why.__class__.__name__
        return "(" + name + ")"


def tale(web, rows, keeping, cells, lines):
    """The list of what a new desk tells to a list or tuple of lines."""
    desk = Desk(web, rows, keeping, cells)
    if not isinstance(lines, (list, tuple)):
        raise NoTale()
    return [answer(desk, line) for line in lines]
