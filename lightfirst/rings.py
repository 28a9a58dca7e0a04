"""Rings: lots that are not lean, but are so without any one of their pieces."""

from itertools import combinations

from lightfirst.errors import NoPiece, NoRing, NotAlone, TooMany
from lightfirst.spans import inverse, nought_of
from lightfirst.webs import check_lot, is_lean, is_lot_of, is_piece, sums_of

MOST_PIECES = 12


def closing(web, lot):
    """The values, none 0, by which the lot's sums make 0 everywhere, None if it is no ring."""
    values = nought_of(web.prime, sums_of(web, lot))
    # A 0 behind or ahead tells of a piece without which the lot is still not lean.
    if values is None or 0 in values:
        return None
    return values


def is_ring(web, thing):
    """Whether a thing is a ring."""
    return is_lot_of(web, thing) and closing(web, thing) is not None


def ring(web, lot, piece):
    """The ring in a lean lot and a piece together, None if they are lean together."""
    check_lot(web, lot)
    if not is_lean(web, lot):
        raise NotAlone()
    if not is_piece(web, piece) or piece in lot:
        raise NoPiece()
    both = lot + (piece,)
    values = nought_of(web.prime, sums_of(web, both))
    if values is None:
        return None
    return tuple(sorted([number for number, value in zip(both, values) if value != 0]))


def ring_values(web, lot):
    """The values, the first one 1, by which a ring's sums make 0 everywhere."""
    check_lot(web, lot)
    values = closing(web, lot)
    if values is None:
        raise NoRing()
    times = inverse(web.prime, values[0])
    return tuple([value * times % web.prime for value in values])


def all_rings(web):
    """The list of all rings, fewest first."""
    if len(web.pieces) > MOST_PIECES:
        raise TooMany(MOST_PIECES)
    found = []
    # No sum is 0 everywhere, so one piece is no ring; more than many pieces without one are not lean.
    for fewest in range(2, web.many + 2):
        for lot in combinations(range(len(web.pieces)), fewest):
            if closing(web, lot) is not None:
                found.append(lot)
    return found
