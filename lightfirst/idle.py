"""Which pairs of steps a plan can do without."""

from lightfirst.spans import ladder_of
from lightfirst.webs import MOST_PIECES, size_at, size_of, sum_of


def mask_of(lot):
    """The number whose bits are the pieces of a lot."""
    return sum([1 << piece for piece in lot])


def lot_of(mask):
    """The lot of the pieces that are bits of a number."""
    return tuple([piece for piece in range(MOST_PIECES) if mask >> piece & 1 == 1])


def needed(web, lot):
    """The number whose bits are the pieces without which a lot is no keeping, None if it is none with them."""
    columns = [[sum_of(web, piece)[version] for piece in lot] for version in range(web.many)]
    rows = ladder_of(web.prime, len(lot), columns)
    if len(rows) < web.many:
        return None
    # A row of the ladder tells a cut in the lot, and each piece by itself that is a cut is a row by itself.
    cuts = [[piece for piece, value in zip(lot, row) if value != 0] for row in rows]
    return mask_of([cut[0] for cut in cuts if len(cut) == 1])


def neighbours(plan):
    """The ascending list of the pairs of steps of one piece, no other step of this piece between them."""
    latest = {}
    found = []
    for number, (_, piece) in enumerate(plan):
        if piece in latest:
            found.append((latest[piece], number))
        latest[piece] = number
    return sorted(found)


class Course:
    """A plan that can be done, with its moments as numbers whose bits are pieces; steps can be taken out of it."""

    def __init__(self, web, plan, lots):
        self.web = web
        self.plan = plan
        self.masks = [mask_of(lot) for lot in lots]
        self.known = {}
        self.weigh()

    def weigh(self):
        """Finds out the sizes of the moments, and which pieces each of them needs."""
        for mask in self.masks:
            if mask not in self.known:
                lot = lot_of(mask)
                self.known[mask] = (size_of(self.web, lot), needed(self.web, lot))
        self.sizes = [self.known[mask][0] for mask in self.masks]
        self.needs = [self.known[mask][1] for mask in self.masks]
        self.greatest = max(self.sizes)
        self.holds = None not in self.needs

    def is_idle(self, first, last):
        """Whether the plan can do without both steps, neighbours of one piece."""
        word, piece = self.plan[first]
        if word == "drop":
            return max(self.sizes[first + 1:last + 1]) + size_at(self.web, piece) <= self.greatest
        if not self.holds:
            return True
        return not any([need >> piece & 1 == 1 for need in self.needs[first + 1:last + 1]])

    def idle_ones(self):
        """The ascending list of the pairs that the plan can do without."""
        return [(first, last) for first, last in neighbours(self.plan) if self.is_idle(first, last)]

    def first_idle(self):
        """The first of the pairs that the plan can do without, None if there is none."""
        for first, last in neighbours(self.plan):
            if self.is_idle(first, last):
                return (first, last)
        return None

    def take_out(self, first, last):
        """Takes a pair of steps out of the plan."""
        bit = 1 << self.plan[first][1]
        self.plan = self.plan[:first] + self.plan[first + 1:last] + self.plan[last + 1:]
        between = [mask ^ bit for mask in self.masks[first + 2:last + 1]]
        self.masks = self.masks[:first + 1] + between + self.masks[last + 2:]
        self.weigh()
