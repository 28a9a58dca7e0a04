"""Lightest keepings, the papers that show that they are so, and pieces that are put in."""

from lightfirst.errors import NoKeeping, NoLot, NoPiece, NotAlone
from lightfirst.rings import is_ring, ring
from lightfirst.webs import (check_keeping, has_all, is_keeping, is_lean, is_lot_of, is_piece, size_at, size_of, taken,
                             without)


def ordered(web, pieces):
    """The list of the pieces by size, those of one size by number."""
    return sorted(pieces, key=lambda piece: (size_at(web, piece), piece))


def lightest(web, lot):
    """The lean keeping in a keeping that takes the pieces by their order, each that is not made of those ahead."""
    check_keeping(web, lot)
    return tuple(sorted(taken(web, ordered(web, lot))))


def least_size(web, lot):
    """The size of the lightest keeping in a keeping."""
    return size_of(web, lightest(web, lot))


def is_lean_in(web, lot, thing):
    """Whether a thing is a lean keeping in the lot."""
    return is_keeping(web, thing) and is_lean(web, thing) and has_all(lot, thing)


def is_lightest(web, lot, thing):
    """Whether a thing is a lean keeping of least size in a keeping."""
    least = least_size(web, lot)
    return is_lean_in(web, lot, thing) and size_of(web, thing) == least


def check_lean_in(web, lot, keeping):
    """Raises what is raised for a keeping and for a lean keeping that is to be in it."""
    check_keeping(web, lot)
    check_keeping(web, keeping)
    if not has_all(lot, keeping):
        raise NoKeeping()
    if not is_lean(web, keeping):
        raise NotAlone()


def left_out(lot, keeping):
    """The list of the lot's pieces that the keeping has not."""
    return [piece for piece in lot if piece not in keeping]


def light_paper(web, lot, keeping):
    """The dict from the left out pieces to the rings they close, None if the keeping is not of least size."""
    check_lean_in(web, lot, keeping)
    if size_of(web, keeping) > least_size(web, lot):
        return None
    return {piece: ring(web, keeping, piece) for piece in left_out(lot, keeping)}


def shows(web, keeping, piece, thing):
    """Whether a thing is a ring of a piece and the keeping's pieces, none of them greater than it."""
    if not is_ring(web, thing) or piece not in thing:
        return False
    others = without(thing, piece)
    return has_all(keeping, others) and all([size_at(web, other) <= size_at(web, piece) for other in others])


def is_light_paper(web, lot, keeping, thing):
    """Whether a thing is a dict from just the left out pieces to rings that show them to be rightly left out."""
    check_lean_in(web, lot, keeping)
    pieces = left_out(lot, keeping)
    if not isinstance(thing, dict) or len(thing) != len(pieces):
        return False
    return all([piece in thing and shows(web, keeping, piece, thing[piece]) for piece in pieces])


def exchanged(web, kept, piece):
    """What put_in tells, of a keeping that is the lightest one in itself."""
    # A lightest keeping never has the last one of a ring: all others of the ring come ahead and make it.
    last = ordered(web, ring(web, kept, piece))[-1]
    if last == piece:
        return (kept, None)
    return (tuple(sorted(without(kept, last) + (piece,))), last)


def put_in(web, lot, piece):
    """The pair (lightest keeping of a keeping and a piece more, the piece left out for it or None)."""
    check_keeping(web, lot)
    if not is_piece(web, piece) or piece in lot:
        raise NoPiece()
    return exchanged(web, lightest(web, lot), piece)


def put_all(web, lot, pieces):
    """The list of what is left out as pieces are put into a keeping, one behind another, by their order."""
    check_keeping(web, lot)
    if not is_lot_of(web, pieces) or any([piece in lot for piece in pieces]):
        raise NoLot()
    kept = lightest(web, lot)
    found = []
    for piece in ordered(web, pieces):
        kept, last = exchanged(web, kept, piece)
        found.append(last)
    return found
