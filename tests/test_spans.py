"""Points 1.1 and 1.2: fields and spans."""

import random
import unittest

from lightfirst.errors import KeepError, NoPrime, NoSum, NoSums
from lightfirst.spans import alike, are_alone, is_made, ladder, made_of, nought, rank
from tests import oracle

FIELDS = ((2, 1, 3), (2, 2, 3), (2, 3, 3), (3, 1, 3), (3, 2, 3), (5, 1, 2), (5, 2, 2))
TAKES_SUMS = (rank, are_alone, ladder, nought)


def small_sums():
    """All tuples of few sums over tiny fields, as (prime, width, sums)."""
    return [(prime, width, sums) for prime, width, most in FIELDS
            for sums in oracle.tuples_of(oracle.all_sums(prime, width), most)]


def is_ladder(rows):
    """Whether rows have the form that point 1.2 tells."""
    places = [next(k for k in range(len(row)) if row[k]) for row in rows]
    return (places == sorted(set(places))
            and all(row[place] == (1 if at == number else 0)
                    for number, place in enumerate(places) for at, row in enumerate(rows)))


class SmallSums(unittest.TestCase):
    """Everything over tiny fields, against the very words."""

    def test_rank_and_alone(self):
        for prime, width, sums in small_sums():
            self.assertEqual(rank(prime, sums), oracle.rank(prime, width, sums))
            self.assertIs(are_alone(prime, sums), oracle.alone(prime, width, sums))

    def test_step_of_ranks(self):
        for prime, width, sums in small_sums():
            self.assertIs(are_alone(prime, sums), rank(prime, sums) == len(sums))
            made = oracle.span(prime, width, sums)
            for thing in oracle.all_sums(prime, width):
                self.assertIs(thing in made, rank(prime, sums + (thing,)) == rank(prime, sums))
                self.assertIs(thing in made, made_of(prime, sums, thing) is not None)

    def test_made_of(self):
        for prime, width, sums in small_sums():
            hangs = [at for at in range(len(sums)) if sums[at] in oracle.span(prime, width, sums[:at])]
            for thing in oracle.all_sums(prime, width):
                fitting = [times for times in oracle.ways(prime, sums, thing) if not any(times[at] for at in hangs)]
                self.assertLessEqual(len(fitting), 1)
                self.assertEqual(made_of(prime, sums, thing), fitting[0] if fitting else None)

    def test_is_made(self):
        for prime, width, sums in small_sums():
            if len(sums) > 2 or prime > 3:
                continue
            for thing in oracle.all_sums(prime, width):
                right = oracle.ways(prime, sums, thing)
                for times in oracle.tuples_of(range(-1, prime + 1), len(sums) + 1):
                    self.assertIs(is_made(prime, sums, thing, times), times in right)

    def test_ladder(self):
        seen = {}
        for prime, width, sums in small_sums():
            rows = ladder(prime, sums)
            self.assertTrue(is_ladder(rows))
            made = oracle.span(prime, width, sums)
            self.assertEqual(oracle.span(prime, width, rows), made)
            self.assertEqual(seen.setdefault((prime, width, tuple(sorted(made))), rows), rows)

    def test_alike(self):
        for prime, width, sums in small_sums():
            if len(sums) > 2 or prime > 3:
                continue
            made = oracle.span(prime, width, sums)
            for others in oracle.tuples_of(oracle.all_sums(prime, width), 2):
                self.assertIs(alike(prime, sums, others), made == oracle.span(prime, width, others))

    def test_nought(self):
        for prime, width, sums in small_sums():
            first = next((at for at in range(len(sums)) if sums[at] in oracle.span(prime, width, sums[:at])), None)
            if first is None:
                self.assertIsNone(nought(prime, sums))
                continue
            way = made_of(prime, sums[:first], sums[first])
            behind = (0,) * (len(sums) - first - 1)
            self.assertEqual(nought(prime, sums), tuple(-value % prime for value in way) + (1,) + behind)
            self.assertEqual(oracle.added(prime, width, sums, nought(prime, sums)), (0,) * width)


class GreatSums(unittest.TestCase):
    """The edges that the points name."""

    def some_sums(self, prime, width, many, low):
        """So many sums whose rank is at most low, free but for that."""
        chance = random.Random(prime * 1000 + width * 100 + many)
        ground = [tuple(chance.randrange(prime) for _ in range(width - 1)) + (1,) for _ in range(low)]
        sums = []
        while len(sums) < many:
            made = oracle.added(prime, width, ground, [chance.randrange(prime) for _ in ground])
            if any(made):
                sums.append(made)
        return tuple(sums)

    def test_forty_sums(self):
        for prime in (2, 3, 7, 251):
            for width in (1, 2, 9, 10):
                for low in (1, 4, 10):
                    sums = self.some_sums(prime, width, 40, low)
                    self.check_all(prime, width, sums, low)

    def check_all(self, prime, width, sums, low):
        rows = ladder(prime, sums)
        self.assertTrue(is_ladder(rows))
        self.assertEqual(rank(prime, sums), len(rows))
        self.assertLessEqual(len(rows), min(low, width))
        self.assertTrue(alike(prime, sums, rows))
        self.assertFalse(are_alone(prime, sums))
        self.assertEqual(oracle.added(prime, width, sums, nought(prime, sums)), (0,) * width)
        hangs = [at for at in range(40) if rank(prime, sums[:at]) == rank(prime, sums[:at + 1])]
        for thing in sums:
            way = made_of(prime, sums, thing)
            self.assertEqual(oracle.added(prime, width, sums, way), thing)
            self.assertTrue(is_made(prime, sums, thing, way))
            self.assertFalse(is_made(prime, sums, thing, way[:-1]))
            self.assertFalse(any(way[at] for at in hangs))
        # Sums of rank less than the width leave some version unmade.
        units = [tuple(int(k == at) for k in range(width)) for at in range(width)]
        made = [made_of(prime, sums, thing) is not None for thing in units]
        self.assertIs(all(made), len(rows) == width)

    def test_no_sums(self):
        for prime in (2, 251):
            self.assertEqual((rank(prime, ()), ladder(prime, ()), nought(prime, ())), (0, (), None))
            self.assertIs(are_alone(prime, ()), True)
            self.assertIs(alike(prime, (), ()), True)
            for width in range(1, 11):
                thing = (1,) * width
                self.assertIsNone(made_of(prime, (), thing))
                self.assertIs(is_made(prime, (), thing, ()), False)
                self.assertIs(alike(prime, (), (thing,)), False)
                self.assertIs(alike(prime, (thing,), ()), False)

    def test_least_and_greatest_prime(self):
        self.assertEqual(made_of(251, ((250,),), (1,)), (250,))
        self.assertEqual(ladder(251, ((2, 250),)), ((1, 125),))
        self.assertEqual(nought(251, ((2, 4), (1, 2))), (125, 1))
        self.assertEqual(ladder(2, ((1, 1), (0, 1))), ((1, 0), (0, 1)))
        self.assertEqual(nought(2, ((1, 1), (0, 1), (1, 0), (1, 1))), (1, 1, 1, 0))

    def test_every_value_can_be_divided_by(self):
        primes = [n for n in range(2, 252) if all(n % k for k in range(2, n))]
        for prime in primes:
            for value in range(1, prime):
                way = made_of(prime, ((value,),), (1,))
                self.assertEqual(way[0] * value % prime, 1)


class WrongSums(unittest.TestCase):
    """What is raised, and in which order."""

    def test_no_prime(self):
        primes = [n for n in range(2, 252) if all(n % k for k in range(2, n))]
        wrong = [n for n in range(-3, 300) if n not in primes]
        for thing in wrong + oracle.no_integers() + [257, 10 ** 60 - 1, (2,), [2]]:
            for call in TAKES_SUMS:
                self.assertRaises(NoPrime, call, thing, ())
                self.assertRaises(NoPrime, call, thing, [])
            self.assertRaises(NoPrime, made_of, thing, None, None)
            self.assertRaises(NoPrime, is_made, thing, None, None, None)
            self.assertRaises(NoPrime, alike, thing, None, None)
        for prime in primes:
            self.assertEqual(rank(prime, ()), 0)

    def wrong_sums(self):
        right = (1, 0)
        tuples = [things for things in oracle.junk() if not isinstance(things, tuple) or things]
        return tuples + [(right, (1,)), (right, (1, 0, 0)), ((0, 0),), (right, (0, 0)), ((),), ((1,) * 11,),
                         (right, [1, 0]), [right], (right, (1, True)), (right, (1, 5)), (right, (1, -1)),
                         (right, None), (right,) * 41, (right, right, "10"), ((1, 0.5),), right, (right, (1, (0,))),
                         tuple((1, 0) for _ in range(19000)), ((1,) * 19000,), ((True,),), ((False, 1),)]

    def test_no_sums(self):
        for thing in self.wrong_sums():
            for call in TAKES_SUMS:
                self.assertRaises(NoSums, call, 5, thing)
            self.assertRaises(NoSums, made_of, 5, thing, None)
            self.assertRaises(NoSums, is_made, 5, thing, None, None)
            self.assertRaises(NoSums, alike, 5, thing, None)
            self.assertRaises(NoSums, alike, 5, ((1, 0),), thing)
            self.assertRaises(NoSums, alike, 5, (), thing)

    def test_unlike_widths(self):
        self.assertRaises(NoSums, alike, 5, ((1, 0),), ((1, 0, 0),))
        self.assertRaises(NoSums, alike, 5, ((1,),), ((1, 0),))

    def test_no_sum(self):
        wrong = oracle.junk() + [0, 1, (), (0, 0), (1, 5), (-1, 1), (1, True), [1, 0], ((1, 0),), (0,) * 3]
        for sums in ((), ((1, 0),), ((1, 0), (0, 1), (1, 1))):
            for thing in wrong:
                self.assertRaises(NoSum, made_of, 5, sums, thing)
                self.assertRaises(NoSum, is_made, 5, sums, thing, None)
        for thing in ((1,), (1, 0, 0), (1,) * 10):
            self.assertRaises(NoSum, made_of, 5, ((1, 0),), thing)
            self.assertRaises(NoSum, is_made, 5, ((1, 0),), thing, (1,))
            self.assertIsNone(made_of(5, (), thing))
        self.assertRaises(NoSum, made_of, 5, (), (1,) * 11)
        self.assertRaises(NoSum, made_of, 5, (), (1,) * 19000)

    def test_is_made_judges_anything(self):
        for thing in oracle.junk() + [0, 1, (), [1, 0], (1,), (1, 0, 0), (6, 0), (1, -5), (1, False), (True, 0)]:
            self.assertIs(is_made(5, ((1, 0), (0, 1)), (1, 0), thing), False)
        self.assertIs(is_made(5, ((1, 0), (0, 1)), (1, 0), (1, 0)), True)

    def test_order_of_the_errors(self):
        self.assertRaises(NoPrime, made_of, 4, [], ())
        self.assertRaises(NoSums, made_of, 3, [], ())
        self.assertRaises(NoSum, made_of, 3, (), ())
        self.assertRaises(NoPrime, alike, True, [], ())
        self.assertRaises(NoSums, alike, 2, (), [])

    def test_a_call_that_raises_changes_nothing(self):
        sums = [[1, 0], [0, 1]]
        self.assertRaises(KeepError, rank, 5, sums)
        self.assertRaises(KeepError, made_of, 5, ((1, 0),), sums)
        self.assertEqual(sums, [[1, 0], [0, 1]])

    def test_kinds_of_what_is_returned(self):
        sums = ((1, 2), (2, 4), (0, 3))
        self.assertIs(type(rank(5, sums)), int)
        for found in (made_of(5, sums, (1, 1)), nought(5, sums), ladder(5, sums)) + ladder(5, sums):
            self.assertIs(type(found), tuple)
        for value in made_of(5, sums, (1, 1)) + nought(5, sums) + ladder(5, sums)[0]:
            self.assertIs(type(value), int)


class Examples(unittest.TestCase):

    def test_e01(self):
        s = ((1, 0), (1, 4), (2, 1))
        self.assertEqual((rank(5, s), made_of(5, s, (0, 1)), ladder(5, s), nought(5, s)),
                         (2, (1, 4, 0), ((1, 0), (0, 1)), (2, 1, 1)))


if __name__ == "__main__":
    unittest.main()
