"""What lots are safe against: losses, harms and planes; webs of powers."""

from lightfirst.basics import check_within, is_within
from lightfirst.errors import BadWeb, NoPlane, TooMany
from lightfirst.room import least_room
from lightfirst.spans import is_prime, is_sum, ladder_of, new_row
from lightfirst.webs import (MOST_PIECES, MOST_SIZE, MOST_VERSIONS, Web, check_keeping, check_lot, every_piece,
                             has_all, is_keeping, is_lot_of, size_of, sum_of, sums_of)

MOST_LOST = 12


def product_of(prime, one, other):
    """The values of both, multiplied place by place and added."""
    return sum([value * times for value, times in zip(one, other)]) % prime


def plane(web, lot):
    """A tuple of values, not all 0, whose products with each of the lot's sums are 0; None for a keeping."""
    check_lot(web, lot)
    rows = ladder_of(web.prime, web.many, sums_of(web, lot))
    # Each row has 1 at its first place, and no other row has anything there.
    places = {row.index(1): row for row in rows}
    free = [place for place in range(web.many) if place not in places]
    if len(free) == 0:
        return None
    found = [0] * web.many
    found[free[0]] = 1
    for place in places:
        found[place] = -places[place][free[0]] % web.prime
    return tuple(found)


def is_plane(web, lot, thing):
    """Whether a thing is such a tuple."""
    check_lot(web, lot)
    if not is_sum(web.prime, web.many, thing):
        return False
    return all([product_of(web.prime, values, thing) == 0 for values in sums_of(web, lot)])


def check_few(lot):
    """Raises what is raised for a lot of too many pieces to go through all its parts."""
    if len(lot) > MOST_LOST:
        raise TooMany(MOST_LOST)


def chosen(lot, mask):
    """The lot of those pieces whose places in a lot are bits of a number."""
    return tuple([piece for place, piece in enumerate(lot) if mask >> place & 1 == 1])


def with_piece(web, rows, piece):
    """The rows of a lot, and the one that a piece more adds to them, if it adds one."""
    row = new_row(web.prime, web.many, rows, sum_of(web, piece))
    if row is None:
        return rows
    return rows + [row]


def keepings_in(web, lot):
    """The list that tells of each part of a lot, numbered as chosen takes it, whether it is a keeping."""
    found = [[]]
    for piece in lot:
        found = found + [with_piece(web, rows, piece) for rows in found]
    return [len(rows) == web.many for rows in found]


def bits_of(mask):
    """The list of the numbers with one bit each that are in a number."""
    return [1 << place for place in range(MOST_LOST) if mask >> place & 1 == 1]


def safeties(web, lot):
    """The list of how safe each part of a lot is, numbered as chosen takes it."""
    found = []
    for mask, is_one in enumerate(keepings_in(web, lot)):
        if is_one:
            found.append(1 + min([found[mask ^ bit] for bit in bits_of(mask)]))
        else:
            found.append(-1)
    return found


def safety(web, lot):
    """The greatest k for which a lot is k-safe, -1 for no keeping."""
    check_lot(web, lot)
    check_few(lot)
    return safeties(web, lot)[-1]


def is_safe(web, lot, k):
    """Whether a lot is k-safe."""
    check_lot(web, lot)
    check_within(0, MOST_LOST, k)
    return safety(web, lot) >= k


def harms(web, lot):
    """The list, fewest first, of all harms of a lot."""
    check_lot(web, lot)
    check_few(lot)
    full = keepings_in(web, lot)
    found = []
    for mask, is_one in enumerate(full):
        lost = len(full) - 1 - mask
        if not is_one and all([full[mask | bit] for bit in bits_of(lost)]):
            found.append(chosen(lot, lost))
    return sorted(found, key=lambda harm: (len(harm), harm))


def is_harm(web, lot, thing):
    """Whether a thing is a harm of a lot."""
    check_lot(web, lot)
    if not is_lot_of(web, thing) or not has_all(lot, thing):
        return False
    left = [piece for piece in lot if piece not in thing]
    if is_keeping(web, tuple(left)):
        return False
    return all([is_keeping(web, tuple(sorted(left + [piece]))) for piece in thing])


def harm_of(web, lot, values):
    """The lot of the lot's pieces whose products with a plane are not 0."""
    check_lot(web, lot)
    if not is_sum(web.prime, web.many, values):
        raise NoPlane()
    return tuple([piece for piece in lot if product_of(web.prime, sum_of(web, piece), values) != 0])


def lightest_safe(web, k):
    """The first, fewest first, of the k-safe lots of least size, None if there is none."""
    check_within(0, MOST_LOST, k)
    every = every_piece(web)
    check_few(every)
    safe = [chosen(every, mask) for mask, least in enumerate(safeties(web, every)) if least >= k]
    if len(safe) == 0:
        return None
    return min(safe, key=lambda lot: (size_of(web, lot), len(lot), lot))


def room_to_mend(web, lot, lost, goal):
    """The least room from what is left of a lot to a goal, None if this is no keeping."""
    check_lot(web, lot)
    check_lot(web, lost)
    check_keeping(web, goal)
    left = tuple([piece for piece in lot if piece not in lost])
    if not is_keeping(web, left):
        return None
    return least_room(web, left, goal)


def powers_of(prime, many, value):
    """The tuple (1, value, value ** 2, ..) of so many values."""
    found = [1]
    while len(found) < many:
        found.append(found[-1] * value % prime)
    return tuple(found)


def powers(prime, many, copies, size):
    """The web of pieces of one size of which each many are a keeping."""
    if not is_prime(prime):
        raise BadWeb("prime")
    if not is_within(1, MOST_VERSIONS, many):
        raise BadWeb("many")
    check_within(many, min(MOST_PIECES, prime + 1), copies)
    check_within(1, MOST_SIZE, size)
    sums = [powers_of(prime, many, value) for value in range(copies) if value < prime]
    if copies > prime:
        sums.append((0,) * (many - 1) + (1,))
    return Web(prime, many, tuple([(values, size) for values in sums]))
