"""Cuts: lots without which a web is no keeping, but is one with any one of their pieces."""

from lightfirst.errors import NoCut, NoPiece, NotAlone
from lightfirst.losses import harms, is_harm, plane
from lightfirst.rings import ring
from lightfirst.spans import leading
from lightfirst.webs import check_keeping, check_lot, every_piece, is_lean, is_piece


def check_web(web):
    """Raises what is raised for a web that is itself no keeping."""
    check_keeping(web, every_piece(web))


def is_cut(web, thing):
    """Whether a thing is a cut."""
    check_web(web)
    return is_harm(web, every_piece(web), thing)


def cut(web, lot, piece):
    """The cut that has of a lean keeping this piece alone."""
    check_web(web)
    check_keeping(web, lot)
    if not is_lean(web, lot):
        raise NotAlone()
    if not is_piece(web, piece) or piece not in lot:
        raise NoPiece()
    # Just those pieces can take its place on whose ring it stands.
    others = [other for other in every_piece(web) if other not in lot and piece in ring(web, lot, other)]
    return tuple(sorted(others + [piece]))


def cut_row(web, lot):
    """The values, the first one that is not 0 being 1, whose products with just the cut's sums are not 0."""
    check_web(web)
    check_lot(web, lot)
    if not is_cut(web, lot):
        raise NoCut()
    others = tuple([piece for piece in every_piece(web) if piece not in lot])
    _, values = leading(web.prime, web.many, plane(web, others))
    return tuple(values)


def all_cuts(web):
    """The list of all cuts, fewest first."""
    check_web(web)
    return harms(web, every_piece(web))
