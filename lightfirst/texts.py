"""Webs and plans as texts, written and read."""

from lightfirst.errors import BadPlan, BadText
from lightfirst.plans import OTHER_WORDS, first_wrong
from lightfirst.webs import MOST_PIECES, Web

MOST_FIGURES = 9


def is_figures(word):
    """Whether a word is a number of at most nine figures, without needless zeros."""
    if not word.isascii() or not word.isdigit() or len(word) > MOST_FIGURES:
        return False
    return word == "0" or not word.startswith("0")


def are_figures(word):
    """Whether a word is numbers, commas between."""
    return all([is_figures(part) for part in word.split(",")])


def numbers_of(word):
    """The tuple of the numbers of a word that is numbers, commas between."""
    return tuple([int(part) for part in word.split(",")])


def commas(numbers):
    """Numbers, commas between."""
    return ",".join([str(number) for number in numbers])


def is_web_line(line):
    """Whether a line has the form of the first one of a web's text."""
    words = line.split(" ")
    return len(words) == 3 and words[0] == "web" and is_figures(words[1]) and is_figures(words[2])


def is_piece_line(line):
    """Whether a line has the form of one that tells a piece."""
    words = line.split(" ")
    return len(words) == 3 and words[0] == "piece" and is_figures(words[1]) and are_figures(words[2])


def is_step_line(line):
    """Whether a line has the form of one that tells a step."""
    words = line.split(" ")
    return len(words) == 2 and words[0] in OTHER_WORDS and is_figures(words[1])


def lines_read(text, is_first, is_other):
    """The list of the words of the lines of a text, the first and all others of which have their forms."""
    if not isinstance(text, str):
        raise BadText(0)
    lines = text.split("\n")
    for number, line in enumerate(lines[:-1]):
        fits = is_first if number == 0 else is_other
        if not fits(line):
            raise BadText(number + 1)
    # What stands behind the last line feed is no line.
    if lines[-1] != "":
        raise BadText(len(lines))
    return [line.split(" ") for line in lines[:-1]]


def web_text(web):
    """The text of a web."""
    lines = [f"web {web.prime} {web.many}\n"]
    for values, size in web.pieces:
        lines.append(f"piece {size} {commas(values)}\n")
    return "".join(lines)


def read_web(text):
    """The web of a text."""
    lines = lines_read(text, is_web_line, is_piece_line)
    if len(lines) == 0:
        raise BadText(1)
    pieces = [(numbers_of(values), int(size)) for _, size, values in lines[1:]]
    return Web(int(lines[0][1]), int(lines[0][2]), tuple(pieces))


def check_any_plan(thing):
    """Raises what is raised for what is no plan of any web."""
    if first_wrong(MOST_PIECES, thing) is not None:
        raise BadPlan()


def plan_text(plan):
    """The text of a plan."""
    check_any_plan(plan)
    return "".join([f"{word} {piece}\n" for word, piece in plan])


def read_plan(text):
    """The plan of a text."""
    plan = tuple([(word, int(piece)) for word, piece in lines_read(text, is_step_line, is_step_line)])
    check_any_plan(plan)
    return plan
