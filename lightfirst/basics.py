"""What the other files judge things by: integers, numbers within limits, lots."""

from lightfirst.errors import NoNumber


def is_integer(thing):
    """Whether a thing is an int; a flag is none."""
    return isinstance(thing, int) and not isinstance(thing, bool)


def is_within(least, most, thing):
    """Whether a thing is an integer from least to most."""
    return is_integer(thing) and least <= thing <= most


def check_within(least, most, thing):
    """Raises what is raised for what is no integer from least to most."""
    if not is_within(least, most, thing):
        raise NoNumber()


def is_lot(many, thing):
    """Whether a thing is an ascending tuple of numbers below many, each once."""
    if not isinstance(thing, tuple):
        return False
    last = -1
    for number in thing:
        if not is_within(last + 1, many - 1, number):
            return False
        last = number
    return True
