"""The words of the document reckoned by going through everything, and things that are passed wrongly."""

from functools import lru_cache
from itertools import combinations, product

from lightfirst.errors import KeepError, NoLot
from lightfirst.webs import Web


def added(prime, width, sums, times):
    """What sums make, each so many times."""
    return tuple(sum(t * s[k] for t, s in zip(times, sums)) % prime for k in range(width))


@lru_cache(maxsize=None)
def ways(prime, sums, wanted):
    """All tuples of values by which the wanted row is made."""
    return [times for times in product(range(prime), repeat=len(sums))
            if added(prime, len(wanted), sums, times) == wanted]


@lru_cache(maxsize=None)
def span(prime, width, sums):
    """The set of all rows that are made of the sums."""
    return {added(prime, width, sums, times) for times in product(range(prime), repeat=len(sums))}


@lru_cache(maxsize=None)
def alone(prime, width, sums):
    """Whether none of the sums is made of the others."""
    return all(sums[k] not in span(prime, width, sums[:k] + sums[k + 1:]) for k in range(len(sums)))


@lru_cache(maxsize=None)
def rank(prime, width, sums):
    """The greatest number of the sums that are alone."""
    return max(many for many in range(len(sums) + 1)
               for chosen in combinations(sums, many) if alone(prime, width, chosen))


def all_sums(prime, width):
    """All sums of a width, ascending."""
    return [values for values in product(range(prime), repeat=width) if any(values)]


def tuples_of(things, most):
    """All tuples of at most so many of the things."""
    return [chosen for many in range(most + 1) for chosen in product(things, repeat=many)]


def subsets(lot):
    """All lots that are held by a lot, fewest first."""
    return [chosen for many in range(len(lot) + 1) for chosen in combinations(lot, many)]


def sums_of(web, lot):
    """The sums of a lot's pieces."""
    return tuple(web.pieces[k][0] for k in lot)


def unit(web, version):
    """The sum of a version."""
    return tuple(1 if k == version else 0 for k in range(web.many))


def is_lean(web, lot):
    """Whether a lot is lean."""
    return alone(web.prime, web.many, sums_of(web, lot))


def told(web, lot):
    """The lot of the versions that a lot reads."""
    made = span(web.prime, web.many, sums_of(web, lot))
    return tuple(v for v in range(web.many) if unit(web, v) in made)


def is_keeping(web, lot):
    """Whether a lot is a keeping."""
    return told(web, lot) == tuple(range(web.many))


def is_ring(web, lot):
    """Whether a lot is a ring, by the very words."""
    return not is_lean(web, lot) and all(is_lean(web, lot[:k] + lot[k + 1:]) for k in range(len(lot)))


def web_over(prime, many, sums):
    """A web of these sums, with sizes that differ."""
    return Web(prime, many, tuple((values, 3 + 2 * k) for k, values in enumerate(sums)))


def small_webs():
    """Webs that can be gone through in full: all pairs and triples over tiny fields, and some greater ones."""
    webs = [web_over(2, 1, chosen) for chosen in tuples_of(all_sums(2, 1), 3)]
    webs += [web_over(3, 1, chosen) for chosen in tuples_of(all_sums(3, 1), 3)]
    webs += [web_over(2, 2, chosen) for chosen in tuples_of(all_sums(2, 2), 4)]
    webs += [web_over(3, 2, chosen) for chosen in tuples_of(all_sums(3, 2), 2)]
    webs += [web_over(3, 2, chosen) for chosen in combinations(all_sums(3, 2), 4)]
    webs += [web_over(2, 3, chosen) for chosen in combinations(all_sums(2, 3), 4)]
    webs += [web_over(2, 3, chosen) for chosen in combinations(all_sums(2, 3), 6)]
    return webs


def deep(kind, depth):
    """Things nested so deep, as lists or as tuples."""
    nest = 0
    for _ in range(depth):
        nest = [nest] if kind is list else (nest,)
    return nest


def a_function():
    """A thing that is passed."""


def junk():
    """Things of all built-in kinds that are neither integers nor tuples of numbers."""
    web = Web(2, 1, (((1,), 1),))
    chain = {}
    for _ in range(39):
        chain = {0: chain}
    return [None, True, False, "", "0", "(0, 1)", b"", b"\x00\x01", bytearray(b"\x00"), memoryview(b"\x00"), [], [0],
            [0, 1], [(0, 1)], {}, {0: 1}, {"a": (1,)}, range(1), range(2), slice(0, 1), Ellipsis, NotImplemented,
            object(), int, tuple, a_function, len, iter(()), (k for k in ()), Web, KeepError, NoLot(), web,
            deep(list, 40), deep(tuple, 40), chain, (True,), (0, True), (False, 1), ("0",), (None,), ([0],), ((),),
            ((), ()), ({},), (web,), (0, web), (-1,), (-1, 0), (10 ** 60 - 1,), (0, "1"), (b"0",), [0] * 19999]


def no_integers():
    """Things that are no integers."""
    return [thing for thing in junk() if not isinstance(thing, int) or isinstance(thing, bool)]
