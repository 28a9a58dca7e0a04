"""Contents of pieces: the parts in which they are laid, rows that are read from them, and whether they agree."""

from lightfirst.basics import check_within, is_integer, is_within
from lightfirst.errors import BadWeb, NoContents, NoPiece, NoPrime, NoRows
from lightfirst.rings import is_ring, ring, ring_values
from lightfirst.spans import added, is_prime, is_sum, is_values
from lightfirst.webs import MOST_VERSIONS, Web, check_lot, has_all, is_piece, reading, sum_of

MOST_WIDTH = 12


def is_row(prime, thing):
    """Whether a thing is a row, or a content, of some width."""
    return isinstance(thing, tuple) and 1 <= len(thing) <= MOST_WIDTH and is_values(prime, len(thing), thing)


def are_rows(prime, things):
    """Whether all things of a list or tuple are rows of one width."""
    return all([is_row(prime, thing) for thing in things]) and all([len(row) == len(things[0]) for row in things])


def check_rows(web, rows):
    """Raises what is raised for the rows of a web's versions."""
    if not isinstance(rows, tuple) or len(rows) != web.many or not are_rows(web.prime, rows):
        raise NoRows()


def content_of(web, rows, piece):
    """The content of a piece, of rows that are known to be right."""
    return added(web.prime, len(rows[0]), rows, sum_of(web, piece))


def content(web, rows, piece):
    """The content of a piece: the rows, each so many times as its sum tells, added."""
    check_rows(web, rows)
    if not is_piece(web, piece):
        raise NoPiece()
    return content_of(web, rows, piece)


def contents(web, rows, lot):
    """The dict from a lot of pieces to their contents."""
    check_rows(web, rows)
    check_lot(web, lot)
    return {piece: content_of(web, rows, piece) for piece in lot}


def parts_of(prime, row):
    """The numbers of the parts of a content that is known to be right."""
    told = [place * prime + value for place, value in enumerate(row) if value != 0]
    return tuple([len(told)] + told)


def parts(web, row):
    """The numbers of the parts of a content: how many places are not 0, then each of these with its value."""
    if not is_row(web.prime, row):
        raise NoContents()
    return parts_of(web.prime, row)


def row_told(prime, width, thing):
    """The content of this width whose parts a thing is, None for what is none."""
    if not isinstance(thing, tuple) or not all([is_integer(number) for number in thing]):
        return None
    found = [0] * width
    for number in thing[1:]:
        if not is_within(0, width * prime - 1, number):
            return None
        found[number // prime] = number % prime
    # Whatever is out of order, or there twice, is not what comes out again.
    if parts_of(prime, found) != thing:
        return None
    return tuple(found)


def row_of(web, width, thing):
    """The content of this width whose parts a tuple is, None for what is none."""
    check_within(1, MOST_WIDTH, width)
    return row_told(web.prime, width, thing)


def parts_needed(prime, rows, values):
    """How many parts the content of a sum has; 1 for what is no sum, which Web will tell."""
    if not is_sum(prime, len(rows), values):
        return 1
    return len(parts_of(prime, added(prime, len(rows[0]), rows, values)))


def web_of(prime, rows, sums):
    """The web of these sums whose sizes are how many parts their contents have."""
    if not is_prime(prime):
        raise NoPrime()
    if not isinstance(rows, tuple) or not 1 <= len(rows) <= MOST_VERSIONS or not are_rows(prime, rows):
        raise NoRows()
    if not isinstance(sums, tuple):
        raise BadWeb("pieces")
    return Web(prime, len(rows), tuple([(values, parts_needed(prime, rows, values)) for values in sums]))


def fits(web, rows):
    """Whether the web's sizes are how many parts the contents have."""
    check_rows(web, rows)
    needed = [parts_needed(web.prime, rows, values) for values, _ in web.pieces]
    return needed == [size for _, size in web.pieces]


def check_known(web, known):
    """Raises what is raised for known contents."""
    if not isinstance(known, dict) or not all([is_piece(web, piece) for piece in known]):
        raise NoContents()
    if not are_rows(web.prime, list(known.values())):
        raise NoContents()


def read_row(web, known, version):
    """The row of a version that the known contents tell, None if they don't."""
    check_known(web, known)
    way = reading(web, tuple(sorted(known)), version)
    if way is None:
        return None
    rows = [known[piece] for piece, _ in way]
    return added(web.prime, len(rows[0]), rows, [times for _, times in way])


def sum_around(web, known, lot):
    """What the contents of a ring make, each as often as ring_values tells: 0 everywhere if it closes."""
    rows = [known[piece] for piece in lot]
    return added(web.prime, len(rows[0]), rows, ring_values(web, lot))


def first_spoilt(web, known):
    """The ring that the least piece closes whose content is not made as its sum is; None if there is none."""
    kept = ()
    for piece in sorted(known):
        closed = ring(web, kept, piece)
        if closed is None:
            kept = kept + (piece,)
        elif any([value != 0 for value in sum_around(web, known, closed)]):
            return closed
    return None


def spoilt(web, known):
    """A pair (ring, place) that shows that known contents don't agree, None if they do."""
    check_known(web, known)
    closed = first_spoilt(web, known)
    if closed is None:
        return None
    places = [place for place, value in enumerate(sum_around(web, known, closed)) if value != 0]
    return (closed, places[0])


def agree(web, known):
    """Whether there are rows of which these are the contents."""
    check_known(web, known)
    return first_spoilt(web, known) is None


def is_spoilt(web, known, thing):
    """Whether a thing is a pair of a ring of known pieces and a place at which it does not close."""
    check_known(web, known)
    if not isinstance(thing, tuple) or len(thing) != 2:
        return False
    if not is_ring(web, thing[0]) or not has_all(list(known), thing[0]):
        return False
    around = sum_around(web, known, thing[0])
    return is_within(0, len(around) - 1, thing[1]) and around[thing[1]] != 0
