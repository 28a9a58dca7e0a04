"""Fields and spans: sums over a field, and what is made of what."""

from lightfirst.basics import is_within
from lightfirst.errors import NoPrime, NoSum, NoSums

MOST_PRIME = 251
MOST_SUMS = 40
MOST_WIDTH = 10


def is_prime(thing):
    """Whether a thing is a prime from 2 to 251."""
    # Every composite up to 251 has a divisor up to 15.
    return is_within(2, MOST_PRIME, thing) and all([thing % k != 0 for k in range(2, 16) if k * k <= thing])


def is_values(prime, many, thing):
    """Whether a thing is a tuple of so many values of the prime."""
    if not isinstance(thing, tuple) or len(thing) != many:
        return False
    return all([is_within(0, prime - 1, value) for value in thing])


def is_sum(prime, width, thing):
    """Whether a thing is a sum of this width."""
    return is_values(prime, width, thing) and thing != (0,) * width


def is_any_sum(prime, thing):
    """Whether a thing is a sum of some width that sums can have."""
    if not isinstance(thing, tuple) or not 1 <= len(thing) <= MOST_WIDTH:
        return False
    return is_sum(prime, len(thing), thing)


def are_sums(prime, thing):
    """Whether a thing is a tuple of at most 40 sums of one width."""
    if not isinstance(thing, tuple) or len(thing) > MOST_SUMS:
        return False
    if len(thing) == 0:
        return True
    if not is_any_sum(prime, thing[0]):
        return False
    width = len(thing[0])
    return all([is_sum(prime, width, values) for values in thing])


def width_of(sums):
    """The width of sums, 0 for no sums: these have every width."""
    if len(sums) == 0:
        return 0
    return len(sums[0])


def check_sums(prime, sums):
    """Raises what is raised for a prime and sums of it."""
    if not is_prime(prime):
        raise NoPrime()
    if not are_sums(prime, sums):
        raise NoSums()


def check_sum(prime, sums, thing):
    """Raises what is raised for a sum that is to be as wide as the sums."""
    if not is_any_sum(prime, thing):
        raise NoSum()
    if len(sums) > 0 and len(thing) != width_of(sums):
        raise NoSum()


def inverse(prime, value):
    """The value that makes 1, multiplied by this one, which is not 0."""
    old, new = prime, value
    old_times, new_times = 0, 1
    while new != 0:
        often = old // new
        old, new = new, old - often * new
        old_times, new_times = new_times, old_times - often * new_times
    return old_times % prime


def reduced(prime, rows, values):
    """The list of the values, less each row so many times that 0 is left at its place.

    Rows are pairs (place, values), with 1 at this place, and 0 at the places of the rows ahead.
    """
    rest = list(values)
    for place, row in rows:
        times = rest[place]
        if times != 0:
            rest = [(value - times * lead) % prime for value, lead in zip(rest, row)]
    return rest


def leading(prime, width, values):
    """The pair (place, values) of the values multiplied so that the first that is not 0 is 1.

    The first one is looked for among so many as the width tells; None if all of these are 0.
    """
    for place in range(width):
        if values[place] != 0:
            times = inverse(prime, values[place])
            return (place, [value * times % prime for value in values])
    return None


def new_row(prime, width, rows, values):
    """The row that values add to rows, None if they are made of them."""
    return leading(prime, width, reduced(prime, rows, values))


def rows_of(prime, width, sums):
    """The rows of those sums that are not made of the ones ahead of them."""
    rows = []
    for values in sums:
        row = new_row(prime, width, rows, values)
        if row is not None:
            rows.append(row)
    return rows


def marked(sums):
    """The sums as lists, each with a value more for each sum: 1 for itself, 0 for the others.

    What is reckoned with them so tells, behind its width, how often each sum went into it.
    """
    many = len(sums)
    return [list(values) + [int(k == at) for k in range(many)] for at, values in enumerate(sums)]


def way_of(prime, sums, wanted):
    """What made_of tells, of arguments that are known to be right."""
    width = len(wanted)
    rows = rows_of(prime, width, marked(sums))
    rest = reduced(prime, rows, list(wanted) + [0] * len(sums))
    if rest[:width] != [0] * width:
        return None
    return tuple([-value % prime for value in rest[width:]])


def nought_of(prime, sums):
    """What nought tells, of arguments that are known to be right."""
    width = width_of(sums)
    rows = []
    for values in marked(sums):
        rest = reduced(prime, rows, values)
        row = leading(prime, width, rest)
        if row is None:
            return tuple(rest[width:])
        rows.append(row)
    return None


def ladder_of(prime, width, sums):
    """What ladder tells, of sums of any width and number; here some may be 0 everywhere."""
    rows = sorted(rows_of(prime, width, sums), key=lambda step: step[0])
    # By ascending places each row has 0 at the places of those ahead; those behind it are still to be taken off.
    return tuple([tuple(reduced(prime, rows[at + 1:], row[1])) for at, row in enumerate(rows)])


def added(prime, width, sums, times):
    """The tuple that sums of this width make, each so many times."""
    total = [0] * width
    for values, often in zip(sums, times):
        total = [(value + often * more) % prime for value, more in zip(total, values)]
    return tuple(total)


def rank(prime, sums):
    """The greatest number of the sums that are alone."""
    check_sums(prime, sums)
    return len(rows_of(prime, width_of(sums), sums))


def made_of(prime, sums, thing):
    """The values by which a sum is made of the sums, None if it is not made of them.

    Those sums that are made of the ones ahead of them have 0.
    """
    check_sums(prime, sums)
    check_sum(prime, sums, thing)
    return way_of(prime, sums, thing)


def is_made(prime, sums, wanted, thing):
    """Whether a thing is a tuple of values, one for each of the sums, by which the wanted sum is made."""
    check_sums(prime, sums)
    check_sum(prime, sums, wanted)
    return is_values(prime, len(sums), thing) and added(prime, len(wanted), sums, thing) == wanted


def are_alone(prime, sums):
    """Whether none of the sums is made of the others."""
    return rank(prime, sums) == len(sums)


def ladder(prime, sums):
    """The sums, in the one form with steps, that make just what these make."""
    check_sums(prime, sums)
    return ladder_of(prime, width_of(sums), sums)


def alike(prime, sums, others):
    """Whether both sums make the same."""
    check_sums(prime, sums)
    check_sums(prime, others)
    if len(sums) > 0 and len(others) > 0 and width_of(sums) != width_of(others):
        raise NoSums()
    return ladder(prime, sums) == ladder(prime, others)


def nought(prime, sums):
    """The values by which the first sum that is made of those ahead, and these, make 0; None if all are alone."""
    check_sums(prime, sums)
    return nought_of(prime, sums)
