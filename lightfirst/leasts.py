"""All lightest keepings: what they have in common, how far sizes can go, and the ways from one to another."""

from lightfirst.errors import NoLot, NoPiece, NotAlone
from lightfirst.lightest import least_size, left_out, light_paper, lightest, ordered
from lightfirst.rings import ring
from lightfirst.room import lightest_by
from lightfirst.webs import (Web, check_keeping, has_all, is_lean, is_lot_of, is_piece, lean_keepings, size_at, size_of,
                             without)


def rings_left(web, lot):
    """The dict from those pieces of a keeping that are left out of its lightest one to the rings they close with it."""
    return light_paper(web, lot, lightest(web, lot))


def upward(web, paper, piece):
    """By how much a piece of the lightest keeping may grow; None for no end."""
    sizes = [size_at(web, other) for other in paper if piece in paper[other]]
    if len(sizes) == 0:
        return None
    return min(sizes) - size_at(web, piece)


def downward(web, paper, piece):
    """By how much a piece that is left out has to shrink."""
    return size_at(web, piece) - max([size_at(web, other) for other in without(paper[piece], piece)])


def in_every(web, lot):
    """The lot of the pieces that are in every lean keeping of least size in a keeping."""
    kept = lightest(web, lot)
    paper = rings_left(web, lot)
    return tuple([piece for piece in kept if upward(web, paper, piece) != 0])


def in_some(web, lot):
    """The lot of the pieces that are in some lean keeping of least size in a keeping."""
    kept = lightest(web, lot)
    paper = rings_left(web, lot)
    return tuple([piece for piece in lot if piece in kept or downward(web, paper, piece) == 0])


def may_grow(web, lot, piece):
    """The greatest number by which a piece of the lightest keeping could be greater, None for no end."""
    kept = lightest(web, lot)
    if not is_piece(web, piece) or piece not in kept:
        raise NoPiece()
    return upward(web, rings_left(web, lot), piece)


def must_shrink(web, lot, piece):
    """The least number by which a piece that the lightest keeping has not would have to be less to be in one."""
    paper = rings_left(web, lot)
    if not is_piece(web, piece) or piece not in paper:
        raise NoPiece()
    return downward(web, paper, piece)


def lightest_with(web, lot, told):
    """The lightest keeping in a keeping that has all pieces of told."""
    check_keeping(web, lot)
    if not is_lot_of(web, told) or not has_all(lot, told):
        raise NoLot()
    return lightest_by(web, lot, told)


def leasts(web, lot):
    """The ascending list of all lean keepings of least size in a keeping."""
    least = least_size(web, lot)
    inner = Web(web.prime, web.many, tuple([web.pieces[piece] for piece in lot]))
    return [tuple([lot[at] for at in kept]) for kept in lean_keepings(inner) if size_of(inner, kept) == least]


def check_lean_keeping(web, lot):
    """Raises what is raised for a lean keeping."""
    check_keeping(web, lot)
    if not is_lean(web, lot):
        raise NotAlone()


def exchanges(web, one, other):
    """The pairs (in, out) by which one lean keeping becomes another, with a lean keeping behind each."""
    check_lean_keeping(web, one)
    check_lean_keeping(web, other)
    kept = one
    found = []
    for piece in ordered(web, left_out(other, one)):
        last = ordered(web, left_out(ring(web, kept, piece), other))[-1]
        kept = tuple(sorted(without(kept, last) + (piece,)))
        found.append((piece, last))
    return tuple(found)
