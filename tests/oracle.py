"""The words of the document reckoned by going through everything, and things that are passed wrongly."""

from functools import lru_cache
from heapq import heappop, heappush
from itertools import combinations, product
from random import Random

from lightfirst.disk import Disk
from lightfirst.errors import KeepError, NoLot
from lightfirst.webs import Web


def added(prime, width, sums, times):
    """What sums make, each so many times."""
    return tuple(sum(t * s[k] for t, s in zip(times, sums)) % prime for k in range(width))


@lru_cache(maxsize=None)
def ways(prime, sums, wanted):
    """All tuples of values by which the wanted row is made."""
    return [times for times in product(range(prime), repeat=len(sums))
            if added(prime, len(wanted), sums, times) == wanted]


@lru_cache(maxsize=None)
def span(prime, width, sums):
    """The set of all rows that are made of the sums."""
    return {added(prime, width, sums, times) for times in product(range(prime), repeat=len(sums))}


@lru_cache(maxsize=None)
def alone(prime, width, sums):
    """Whether none of the sums is made of the others."""
    return all(sums[k] not in span(prime, width, sums[:k] + sums[k + 1:]) for k in range(len(sums)))


@lru_cache(maxsize=None)
def rank(prime, width, sums):
    """The greatest number of the sums that are alone."""
    return max(many for many in range(len(sums) + 1)
               for chosen in combinations(sums, many) if alone(prime, width, chosen))


def all_sums(prime, width):
    """All sums of a width, ascending."""
    return [values for values in product(range(prime), repeat=width) if any(values)]


def tuples_of(things, most):
    """All tuples of at most so many of the things."""
    return [chosen for many in range(most + 1) for chosen in product(things, repeat=many)]


def subsets(lot):
    """All lots that are held by a lot, fewest first."""
    return [chosen for many in range(len(lot) + 1) for chosen in combinations(lot, many)]


def sums_of(web, lot):
    """The sums of a lot's pieces."""
    return tuple(web.pieces[k][0] for k in lot)


def unit(web, version):
    """The sum of a version."""
    return tuple(1 if k == version else 0 for k in range(web.many))


def is_lean(web, lot):
    """Whether a lot is lean."""
    return alone(web.prime, web.many, sums_of(web, lot))


def told(web, lot):
    """The lot of the versions that a lot reads."""
    made = span(web.prime, web.many, sums_of(web, lot))
    return tuple(v for v in range(web.many) if unit(web, v) in made)


def is_keeping(web, lot):
    """Whether a lot is a keeping."""
    return told(web, lot) == tuple(range(web.many))


def is_ring(web, lot):
    """Whether a lot is a ring, by the very words."""
    return not is_lean(web, lot) and all(is_lean(web, lot[:k] + lot[k + 1:]) for k in range(len(lot)))


def web_over(prime, many, sums):
    """A web of these sums, with sizes that differ."""
    return Web(prime, many, tuple((values, 3 + 2 * k) for k, values in enumerate(sums)))


def small_webs():
    """Webs that can be gone through in full: all pairs and triples over tiny fields, and some greater ones."""
    webs = [web_over(2, 1, chosen) for chosen in tuples_of(all_sums(2, 1), 3)]
    webs += [web_over(3, 1, chosen) for chosen in tuples_of(all_sums(3, 1), 3)]
    webs += [web_over(2, 2, chosen) for chosen in tuples_of(all_sums(2, 2), 4)]
    webs += [web_over(3, 2, chosen) for chosen in tuples_of(all_sums(3, 2), 2)]
    webs += [web_over(3, 2, chosen) for chosen in combinations(all_sums(3, 2), 4)]
    webs += [web_over(2, 3, chosen) for chosen in combinations(all_sums(2, 3), 4)]
    webs += [web_over(2, 3, chosen) for chosen in combinations(all_sums(2, 3), 6)]
    return webs


def deep(kind, depth):
    """Things nested so deep, as lists or as tuples."""
    nest = 0
    for _ in range(depth):
        nest = [nest] if kind is list else (nest,)
    return nest


def a_function():
    """A thing that is passed."""


def junk():
    """Things of all built-in kinds that are neither integers nor tuples of numbers."""
    web = Web(2, 1, (((1,), 1),))
    chain = {}
    for _ in range(39):
        chain = {0: chain}
    return [None, True, False, "", "0", "(0, 1)", b"", b"\x00\x01", bytearray(b"\x00"), memoryview(b"\x00"), [], [0],
            [0, 1], [(0, 1)], {}, {0: 1}, {"a": (1,)}, range(1), range(2), slice(0, 1), Ellipsis, NotImplemented,
            object(), int, tuple, a_function, len, iter(()), (k for k in ()), Web, KeepError, NoLot(), web, Disk(1),
            deep(list, 40), deep(tuple, 40), chain, (True,), (0, True), (False, 1), ("0",), (None,), ([0],), ((),),
            ((), ()), ({},), (web,), (0, web), (Disk(1),), (-1,), (-1, 0), (10 ** 60 - 1,), (0, "1"), (b"0",),
            [0] * 19999]


def no_integers():
    """Things that are no integers."""
    return [thing for thing in junk() if not isinstance(thing, int) or isinstance(thing, bool)]


def size(web, lot):
    """The sizes of a lot, added."""
    return sum(web.pieces[k][1] for k in lot)


def lots(web):
    """All lots of a web, fewest first."""
    return subsets(tuple(range(len(web.pieces))))


def keepings(web):
    """All keepings of a web, fewest first."""
    return [lot for lot in lots(web) if is_keeping(web, lot)]


def by_order(web, pieces):
    """The pieces by size, those of one size by number."""
    return tuple(sorted(pieces, key=lambda k: (web.pieces[k][1], k)))


def greedy(web, pieces, begun=()):
    """The lot of what is begun with, and of those pieces, by their order, that are not made of what is taken."""
    found = begun
    for k in by_order(web, pieces):
        if k not in found and web.pieces[k][0] not in span(web.prime, web.many, sums_of(web, found)):
            found += (k,)
    return tuple(sorted(found))


def toggled(lot, piece):
    """The lot without a piece of it, or with one more."""
    return tuple(sorted(set(lot) ^ {piece}))


def rooms_from(web, start, some, stay):
    """The dict from all keepings that can be come to, of some with all of stay, to the least room that it takes.

    Found by a search over all keepings, one piece written or dropped at a time.
    """
    found = {}
    queue = [(size(web, start), start)]
    while queue:
        room, lot = heappop(queue)
        if lot in found:
            continue
        found[lot] = room
        for piece in some:
            after = toggled(lot, piece)
            if after not in found and set(stay) <= set(after) and is_keeping(web, after):
                heappush(queue, (max(room, size(web, after)), after))
    return found


def random_web(chance, prime, many, pieces, sizes):
    """A web of so many pieces that is itself a keeping, with sizes out of these."""
    while True:
        web = Web(prime, many, tuple((chance.choice(all_sums(prime, many)), chance.choice(sizes))
                                     for _ in range(pieces)))
        if is_keeping(web, tuple(range(pieces))):
            return web


def random_webs(seed, many_webs):
    """Small webs with sizes of which many are equal, the same ones for the same seed."""
    chance = Random(seed)
    shapes = [(2, 1, 4), (2, 2, 5), (3, 2, 5), (2, 3, 6), (3, 2, 6), (2, 3, 7), (5, 2, 5)]
    return [random_web(chance, *shapes[k % len(shapes)], (1, 2, 3, 5, 8)) for k in range(many_webs)]


def powers_web(prime, many, pieces, sizes):
    """A web of which each many pieces are a lean keeping; sizes are told by a function of their numbers."""
    return Web(prime, many, tuple((tuple(a ** k % prime for k in range(many)), sizes(a)) for a in range(pieces)))


def no_keepings():
    """Things that are no keeping of a web of the pieces 0 to 2, for which all three are wanted."""
    return junk() + [0, (), (0,), (0, 1), (1, 2), (3,), (0, 1, 2, 3), (1, 0, 2), [0, 1, 2], (0, 1, 1, 2),
                     (False, 1, 2), (0, True, 2), tuple(range(19999))]


def many_things():
    """Things that are no numbers."""
    return no_integers() + [-1, -10 ** 60 + 1]
