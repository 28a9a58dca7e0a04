"""Pieces laid in the cells of a disk, and what they tell."""

from lightfirst.basics import check_within
from lightfirst.contents import MOST_WIDTH, content_of, fits, parts_of, read_row, row_told
from lightfirst.disk import MOST_NUMBER, Disk
from lightfirst.errors import NoRoom, NoRows
from lightfirst.webs import check_keeping, is_piece


def things_lying(disk):
    """The list of what lies in the cells of a disk."""
    return [disk.lying(cell) for cell in range(disk.many_cells())]


def places_of(things, piece):
    """The list of the cells that hold a part of a piece, of what cells hold."""
    return [cell for cell, thing in enumerate(things) if thing != () and thing[0] == piece]


def content_told(web, width, told):
    """The content that a piece's parts, as pairs (part, number), tell; None if they are not just those of one."""
    numbers = tuple([number for _, number in sorted(told)])
    if [part for part, _ in sorted(told)] != list(range(len(told))):
        return None
    return row_told(web.prime, width, numbers)


def all_told(web, width, things):
    """The dict from the web's pieces with parts among the things to their contents, None for half ones."""
    found = {}
    for thing in things:
        if thing != () and is_piece(web, thing[0]):
            found[thing[0]] = found.get(thing[0], []) + [(thing[1], thing[2])]
    return {piece: content_told(web, width, found[piece]) for piece in sorted(found)}


def wholes_in(web, width, things):
    """The dict from the pieces that are whole among the things to their contents."""
    told = all_told(web, width, things)
    return {piece: told[piece] for piece in told if told[piece] is not None}


def halves_in(web, width, things):
    """The lot of the pieces that are half among the things."""
    told = all_told(web, width, things)
    return tuple([piece for piece in told if told[piece] is None])


def whole(web, width, disk):
    """The lot of the pieces that lie whole."""
    check_within(1, MOST_WIDTH, width)
    return tuple(wholes_in(web, width, things_lying(disk)))


def half(web, width, disk):
    """The lot of the pieces that lie half."""
    check_within(1, MOST_WIDTH, width)
    return halves_in(web, width, things_lying(disk))


def lying_contents(web, width, disk):
    """The dict from the pieces that lie whole to their contents."""
    check_within(1, MOST_WIDTH, width)
    return wholes_in(web, width, things_lying(disk))


def cells_with(disk, piece):
    """The lot of the cells that lie with a piece."""
    check_within(0, MOST_NUMBER, piece)
    return tuple(places_of(things_lying(disk), piece))


def rows_told(web, known):
    """The list of the rows of all versions that known contents tell, None for each that they don't."""
    return [read_row(web, known, version) for version in range(web.many)]


def meaning(web, width, disk):
    """The dict from all versions that the whole pieces can read to their rows."""
    rows = rows_told(web, lying_contents(web, width, disk))
    return {version: row for version, row in enumerate(rows) if row is not None}


def things_of(web, rows, piece):
    """The list of the things by which a piece is laid, part by part."""
    numbers = parts_of(web.prime, content_of(web, rows, piece))
    return [(piece, part, number) for part, number in enumerate(numbers)]


def laid(web, rows, lot, cells):
    """A disk on which a keeping's pieces lie, one behind another, from cell 0 on."""
    if not fits(web, rows):
        raise NoRows()
    check_keeping(web, lot)
    disk = Disk(cells)
    things = [thing for piece in lot for thing in things_of(web, rows, piece)]
    if len(things) > cells:
        raise NoRoom(len(things))
    for cell, thing in enumerate(things):
        disk.write(cell, thing)
    disk.calm()
    # The copy has no writes that have reached.
    return disk.copy()
