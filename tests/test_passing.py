"""Promise 21: tables of G. Pick, positive real functions with given values."""

import random
import unittest
from fractions import Fraction
from itertools import combinations

from coilnets.errors import BadPairs
from coilnets.functions import degree, value_at
from coilnets.passing import pick_table, through
from coilnets.positive import is_positive
from helpers import BAD_POSITIVES, LIMIT, ODDITIES, CoilTest, as_ratio, some_impedances

PLACES = [Fraction(1, 3), Fraction(1, 2), Fraction(1), Fraction(3, 2), Fraction(2), Fraction(3), Fraction(5)]
PAIR = ((1, 1), (2, 1))


def determinant(rows):
    if not rows:
        return Fraction(1)
    return sum((-1) ** at * rows[0][at] * determinant([row[:at] + row[at + 1:] for row in rows[1:]])
               for at in range(len(rows)))


def table_of(pairs):
    return [[(Fraction(*v) + Fraction(*w)) / (Fraction(*k) + Fraction(*m)) for m, w in pairs] for k, v in pairs]


def least_determinant(pairs):
    table = table_of(pairs)
    chosen = [some for many in range(1, len(pairs) + 1) for some in combinations(range(len(pairs)), many)]
    return min(determinant([[table[at][by] for by in some] for at in some]) for some in chosen)


def pairs_of(places, values):
    return tuple([(as_ratio(Fraction(k)), as_ratio(Fraction(v))) for k, v in zip(places, values)])


class Example(CoilTest):

    def test_interface(self):
        pairs = (((1, 1), (1, 1)), ((2, 1), (2, 1)))
        self.assertEqual(pick_table(pairs), (((1, 1), (1, 1)), ((1, 1), (1, 1))))
        self.assertEqual(through(pairs), ((0, 1), (1,)))
        self.assertIsNone(through((((1, 1), (1, 1)), ((2, 1), (3, 1)))))


class Through(CoilTest):

    def passes(self, pairs):
        """Looks at the function through pairs, and tells whether there is one."""
        found = through(pairs)
        self.assertEqual(found is not None, least_determinant(pairs) >= 0, pairs)
        if found is not None:
            self.assertTrue(is_positive(found))
            self.assertLessEqual(degree(found), len(pairs))
            self.assertEqual([value_at(found, place) for place, _ in pairs], [value for _, value in pairs])
        return found is not None

    def test_some_pairs(self):
        source = random.Random(211)
        many = [0, 0]
        for _ in range(400):
            places = source.sample(PLACES, source.randint(1, 4))
            values = [Fraction(source.randint(2, 8), source.randint(2, 4)) for _ in places]
            many[self.passes(pairs_of(places, values))] += 1
        self.assertGreater(min(many), 80)

    def test_impedances(self):
        """Values of a function, also of one whose degree is so small that there is no other one, and others near."""
        source = random.Random(212)
        for one in some_impedances(213, 60, 4, 5):
            places = source.sample(PLACES, source.randint(1, 4))
            values = [Fraction(*value_at(one, as_ratio(place))) for place in places]
            self.assertTrue(self.passes(pairs_of(places, values)))
            self.passes(pairs_of(places, values[:-1] + [values[-1] * Fraction(100, 99)]))
            self.passes(pairs_of(places, values[:-1] + [values[-1] * Fraction(98, 99)]))

    def test_only_one_function(self):
        for one in (((0, 2), (3,)), ((2,), (0, 3)), ((5,), (1,)), ((1, 0, 1), (0, 1)), ((0, 1), (1, 0, 1)),
                    ((0, 2, 0, 1), (1, 0, 1)), ((1, 0, 3), (0, 2, 0, 1))):
            for many in range(degree(one) + 1, 5):
                for places in combinations(PLACES, many):
                    values = [value_at(one, as_ratio(place)) for place in places]
                    pairs = tuple(zip([as_ratio(place) for place in places], values))
                    self.assertEqual(through(pairs), one)

    def test_one_pair(self):
        for pair in (PAIR, ((LIMIT, 1), (1, LIMIT)), ((1, LIMIT), (LIMIT, 1))):
            self.assertTrue(self.passes((pair,)))

    def test_great_numbers(self):
        many = 10 ** 15
        near = (many, many - 1)
        self.assertTrue(self.passes((((1, 1), (1, 1)), ((2, 1), near), ((3, 1), near))))
        self.assertFalse(self.passes((((1, 1), (1, 1)), (near, near), ((3, 1), (1, many)))))
        self.assertTrue(self.passes((((1, 1), (1, 1)), (near, near), ((3, 1), (3, 1)), ((1, many), (1, many)))))


class Table(CoilTest):

    def test_some_tables(self):
        source = random.Random(214)
        for _ in range(50):
            places = source.sample(PLACES, source.randint(1, 4))
            pairs = pairs_of(places, [Fraction(source.randint(1, 9), source.randint(1, 4)) for _ in places])
            wanted = tuple([tuple([as_ratio(entry) for entry in row]) for row in table_of(pairs)])
            self.assertEqual(pick_table(pairs), wanted)
        self.assertEqual(pick_table((((3, 2), (5, 7)),)), (((10, 21),),))


class Errors(CoilTest):

    def bad(self, value, index):
        for call in (pick_table, through):
            self.assertEqual(self.raises(BadPairs, call, value).index, index, value)

    def test_no_tuple_of_few_things(self):
        for value in ODDITIES:
            if not isinstance(value, tuple) or len(value) == 0:
                self.bad(value, None)
        for value in ((), [PAIR], {PAIR: 1}, (None,) * 5, tuple([((k, 1), (1, 1)) for k in range(1, 6)])):
            self.bad(value, None)

    def test_first_thing_that_is_no_pair(self):
        bad_pairs = [None, True, 3, "ab", (), (1, 2), ((1, 1),), ((1, 1), (1, 1), (1, 1)), [(1, 1), (1, 1)], {1: 1}]
        bad_pairs += [(value, (1, 1)) for value in BAD_POSITIVES] + [((1, 1), value) for value in BAD_POSITIVES]
        for value in bad_pairs:
            self.bad((value,), 0)
            self.bad((value, PAIR, None), 0)
            self.bad((((3, 1), (1, 1)), value, None), 1)
            self.bad((((3, 1), (1, 1)), ((4, 1), (1, 1)), ((5, 1), (1, 1)), value), 3)

    def test_places_that_came_before(self):
        self.bad((PAIR, PAIR), 1)
        self.bad((PAIR, ((1, 1), (3, 1))), 1)
        self.bad((PAIR, ((3, 1), (3, 1)), ((2, 1), (1, 1)), ((3, 1), (7, 2))), 3)
        self.bad((((3, 2), (1, 1)), PAIR, ((3, 2), (1, 1)), PAIR), 2)
        self.bad((PAIR, ((1, 1), (3, 1)), None), 1)
        self.bad((PAIR, ((1, 1), (0, 1))), 1)

    def test_numbers_of_pairs(self):
        pairs = tuple([((k, 1), (1, 1)) for k in range(1, 6)])
        for many in range(1, 5):
            self.assertIsNotNone(through(pairs[:many]))
            self.assertEqual(len(pick_table(pairs[:many])), many)
        self.bad(pairs, None)
        self.bad(pairs[:0], None)


if __name__ == "__main__":
    unittest.main()
