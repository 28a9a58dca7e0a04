"""Webs of pieces, keepings, and ways to read versions."""

from math import comb

from lightfirst.basics import is_lot, is_within
from lightfirst.errors import BadWeb, NoKeeping, NoLot, NoVersion, TooMany
from lightfirst.spans import added, is_prime, is_sum, new_row, reduced, rows_of, way_of

MOST_VERSIONS = 10
MOST_PIECES = 40
MOST_SIZE = 1000000
MOST_LOTS = 20000


def is_pair(prime, many, thing):
    """Whether a thing is a piece, a pair (sum, size), of a web of so many versions."""
    if not isinstance(thing, tuple) or len(thing) != 2:
        return False
    return is_sum(prime, many, thing[0]) and is_within(1, MOST_SIZE, thing[1])


class Web:
    """A prime, how many versions there are, and the pieces: sums of versions with their sizes."""

    def __init__(self, prime, many, pieces):
        if not is_prime(prime):
            raise BadWeb("prime")
        if not is_within(1, MOST_VERSIONS, many):
            raise BadWeb("many")
        if not isinstance(pieces, tuple) or len(pieces) > MOST_PIECES:
            raise BadWeb("pieces")
        for number, piece in enumerate(pieces):
            if not is_pair(prime, many, piece):
                raise BadWeb(number)
        self.prime = prime
        self.many = many
        self.pieces = pieces

    def __eq__(self, other):
        return (isinstance(other, Web) and self.prime == other.prime and self.many == other.many
                and self.pieces == other.pieces)


def is_lot_of(web, thing):
    """Whether a thing is a lot of pieces of the web."""
    return is_lot(len(web.pieces), thing)


def is_piece(web, thing):
    """Whether a thing is the number of a piece of the web."""
    return is_within(0, len(web.pieces) - 1, thing)


def check_lot(web, lot):
    """Raises what is raised for a lot."""
    if not is_lot_of(web, lot):
        raise NoLot()


def check_reading(web, lot, version):
    """Raises what is raised for a lot and a version that is to be read by it."""
    check_lot(web, lot)
    if not is_within(0, web.many - 1, version):
        raise NoVersion()


def every_piece(web):
    """The lot of all pieces."""
    return tuple(range(len(web.pieces)))


def has_all(lot, pieces):
    """Whether all of these pieces stand in the lot."""
    return all([piece in lot for piece in pieces])


def size_at(web, piece):
    """The size of a piece."""
    return web.pieces[piece][1]


def sum_of(web, piece):
    """The sum of a piece."""
    return web.pieces[piece][0]


def sums_of(web, lot):
    """The tuple of the sums of pieces."""
    return tuple([sum_of(web, piece) for piece in lot])


def version_sum(web, version):
    """The sum that has 1 at the version and 0 elsewhere."""
    return tuple([int(k == version) for k in range(web.many)])


def taken(web, order):
    """The tuple of the pieces, in the order given, that are not made of those taken ahead."""
    rows = []
    kept = []
    for piece in order:
        row = new_row(web.prime, web.many, rows, sum_of(web, piece))
        if row is not None:
            rows.append(row)
            kept.append(piece)
    return tuple(kept)


def rank_of(web, lot):
    """The rank of the lot's sums."""
    check_lot(web, lot)
    return len(taken(web, lot))


def size_of(web, lot):
    """The sizes of the lot's pieces, added."""
    check_lot(web, lot)
    return sum([size_at(web, piece) for piece in lot])


def can_read(web, lot):
    """The lot of the versions that can be read by the lot."""
    check_lot(web, lot)
    rows = rows_of(web.prime, web.many, sums_of(web, lot))
    left = [reduced(web.prime, rows, version_sum(web, version)) for version in range(web.many)]
    return tuple([version for version in range(web.many) if left[version] == [0] * web.many])


def unread(web, lot):
    """The lot of the versions that can't be read by the lot."""
    told = can_read(web, lot)
    return tuple([version for version in range(web.many) if version not in told])


def is_keeping(web, thing):
    """Whether a thing is a lot by which all versions can be read."""
    return is_lot_of(web, thing) and len(taken(web, thing)) == web.many


def check_keeping(web, thing):
    """Raises what is raised where a keeping is wanted."""
    if not is_keeping(web, thing):
        raise NoKeeping()


def reading(web, lot, version):
    """The pairs (piece, times) by which made_of makes the version, None if it can't be read."""
    check_reading(web, lot, version)
    way = way_of(web.prime, sums_of(web, lot), version_sum(web, version))
    if way is None:
        return None
    return tuple([(piece, times) for piece, times in zip(lot, way) if times != 0])


def is_part(web, lot, thing):
    """Whether a thing is a pair (piece, times) of a piece of the lot, times not 0."""
    if not isinstance(thing, tuple) or len(thing) != 2:
        return False
    return is_piece(web, thing[0]) and thing[0] in lot and is_within(1, web.prime - 1, thing[1])


def is_reading(web, lot, version, thing):
    """Whether a thing is an ascending tuple of pairs (piece, times) by which the version is made."""
    check_reading(web, lot, version)
    if not isinstance(thing, tuple) or not all([is_part(web, lot, part) for part in thing]):
        return False
    pieces = tuple([part[0] for part in thing])
    if not is_lot_of(web, pieces):
        return False
    often = [part[1] for part in thing]
    return added(web.prime, web.many, sums_of(web, pieces), often) == version_sum(web, version)


def is_lean(web, thing):
    """Whether a thing is a lot whose sums are alone."""
    return is_lot_of(web, thing) and len(taken(web, thing)) == len(thing)


def lean(web, lot):
    """The lot of those pieces that are not made of the ones ahead of them in the lot."""
    check_lot(web, lot)
    return taken(web, lot)


def without(lot, piece):
    """The lot that is left without a piece."""
    return tuple([other for other in lot if other != piece])


def needless(web, lot):
    """The lot of those pieces that are made of all the others in the lot."""
    check_lot(web, lot)
    most = len(taken(web, lot))
    return tuple([piece for piece in lot if len(taken(web, without(lot, piece))) == most])


def grown(web, begun, last):
    """The pairs (lot, rows) of the lean lots that have a piece more, behind their own ones and up to last."""
    found = []
    for lot, rows in begun:
        first = lot[-1] + 1 if len(lot) > 0 else 0
        for piece in range(first, last + 1):
            row = new_row(web.prime, web.many, rows, sum_of(web, piece))
            if row is not None:
                found.append((lot + (piece,), rows + [row]))
    return found


def lean_keepings(web):
    """The list of all lean keepings, ascending."""
    spare = len(web.pieces) - web.many
    if comb(len(web.pieces), web.many) > MOST_LOTS:
        raise TooMany(MOST_LOTS)
    begun = [((), [])]
    for at in range(web.many):
        # A lot whose piece number at is beyond this has too few pieces behind it to become a keeping.
        begun = grown(web, begun, spare + at)
    return [lot for lot, _ in begun]
