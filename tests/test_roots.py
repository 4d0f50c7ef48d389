"""Promises 5 and 6: counting real roots, roots with negative real parts, signs from 0 on."""

import random
import unittest
from fractions import Fraction

from coilnets.errors import BadPolynomial, BadRatio
from coilnets.roots import count_roots, is_left, never_negative
from helpers import BAD_POLYNOMIALS, BAD_RATIOS, LIMIT, CoilTest, as_ratio, product_of


def made_of(factor, roots, pairs):
    """The polynomial with these real roots and these pairs (x, y) of roots x + i y, x - i y."""
    lines = [(-root.numerator, root.denominator) for root in roots]
    return product_of((factor,), *lines, *[(x * x + y * y, -2 * x, 1) for x, y in pairs])


def some_roots(seed, many):
    """Factors, real roots, several of them more than once, and pairs of others."""
    source = random.Random(seed)
    for _ in range(many):
        roots = [Fraction(source.randint(-4, 4), source.randint(1, 3)) for _ in range(source.randint(0, 3))]
        roots = roots + [root for root in roots for _ in range(source.randint(0, 2))]
        pairs = [(source.randint(-2, 2), source.randint(1, 3)) for _ in range(source.randint(0, 1))]
        yield source.choice((-3, -1, 1, 2)), roots, pairs


class Example(CoilTest):

    def test_interface(self):
        self.assertEqual(count_roots((-2, 0, 1), (0, 1), None), 1)
        self.assertEqual(count_roots((0, 0, 1), (-1, 1), (0, 1)), 1)
        self.assertIs(is_left((2, 3, 1)), True)
        self.assertIs(is_left((1, 0, 1)), False)
        self.assertIs(never_negative((1, -2, 1)), True)
        self.assertIs(never_negative((1, -3, 1)), False)


class Count(CoilTest):

    def test_known_roots(self):
        bounds = [None] + [Fraction(n, d) for n in (-4, -1, 0, 1, 3, 4) for d in (1, 2, 3)]
        source = random.Random(21)
        for factor, roots, pairs in some_roots(20, 400):
            polynomial = made_of(factor, roots, pairs)
            for _ in range(4):
                low, high = source.choice(bounds + roots), source.choice(bounds + roots)
                wanted = {r for r in roots if (low is None or low < r) and (high is None or r <= high)}
                ends = [None if bound is None else as_ratio(bound) for bound in (low, high)]
                self.assertEqual(count_roots(polynomial, *ends), len(wanted), (polynomial, ends))

    def test_bounds(self):
        """A root at low does not count, one at high does, and none if high is not above low."""
        polynomial = (0, -1, 0, 1)
        for low, high, many in ((None, None, 3), ((-1, 1), None, 2), (None, (1, 1), 3), ((-1, 1), (1, 1), 2),
                                ((-2, 1), (-1, 1), 1), ((0, 1), (0, 1), 0), ((1, 1), (-1, 1), 0), ((1, 1), None, 0),
                                (None, (-2, 1), 0), ((1, 2), (1, 1), 1), ((1, 2), (99, 100), 0)):
            self.assertEqual(count_roots(polynomial, low, high), many)

    def test_no_roots(self):
        for polynomial in ((5,), (-5,), (1, 0, 1), (LIMIT,)):
            self.assertEqual(count_roots(polynomial, None, None), 0)

    def test_roots_that_are_close(self):
        self.assertEqual(count_roots((-1, LIMIT), (0, 1), (1, LIMIT)), 1)
        self.assertEqual(count_roots((-1, LIMIT), (1, LIMIT), None), 0)
        below, above = as_ratio(Fraction(14142135623730950488, 10 ** 19)), (14142135623730950489, 10 ** 19)
        self.assertEqual(count_roots((-2, 0, 1), below, above), 1)
        self.assertEqual(count_roots((-2, 0, 1), above, None), 0)
        self.assertEqual(count_roots((-LIMIT,) + (0,) * 11 + (LIMIT,), None, None), 2)
        self.assertEqual(count_roots(product_of(*[(-k, 1) for k in range(1, 13)]), (3, 1), (12, 1)), 9)

    def test_errors(self):
        for value in BAD_POLYNOMIALS + ((),):
            self.raises(BadPolynomial, count_roots, value, None, None)
            self.raises(BadPolynomial, count_roots, value, "low", "high")
        for value in BAD_RATIOS:
            if value is not None:
                self.raises(BadRatio, count_roots, (1, 1), value, None)
                self.raises(BadRatio, count_roots, (1, 1), None, value)
                self.raises(BadRatio, count_roots, (1, 1), value, value)


class Left(CoilTest):

    def test_known_roots(self):
        for factor, roots, pairs in some_roots(22, 400):
            wanted = all(root < 0 for root in roots) and all(x < 0 for x, _ in pairs)
            self.assertIs(is_left(made_of(factor, roots, pairs)), wanted)
            moved = [-abs(root) - 1 for root in roots]
            for x in (-2, -1, 0, 1):
                answer = is_left(made_of(factor, moved, [(x, y) for _, y in pairs] + [(x, 2)]))
                self.assertIs(answer, x < 0)

    def test_edges(self):
        for polynomial, answer in (((7,), True), ((-7,), True), ((1, 1), True), ((-1, -1), True), ((1, -1), False),
                                   ((0, 1), False), ((0, -1), False), ((0, 0, 1), False), ((1, 0, 1), False),
                                   ((-1, -3, -3, -1), True), ((1, 1, 1, 1), False), ((1, 1, 2, 1), True),
                                   ((6, 1, 1, 1), False), ((1, 0, 2, 0, 1), False), ((1, 1, 2, 2, 1), False),
                                   ((1, 2, 3, 2, 1), True), ((2, 1, 0, 1), False), ((LIMIT,) * 3, True)):
            self.assertIs(is_left(polynomial), answer, polynomial)
        self.assertIs(is_left(product_of(*[(k, 1) for k in range(1, 13)])), True)
        self.assertIs(is_left(product_of((1, 0, 1), *[(k, 1) for k in range(1, 11)])), False)

    def test_errors(self):
        for value in BAD_POLYNOMIALS + ((),):
            self.raises(BadPolynomial, is_left, value)


class NeverNegative(CoilTest):

    def test_known_roots(self):
        for factor, roots, pairs in some_roots(23, 500):
            wanted = factor > 0 and all(roots.count(root) % 2 == 0 for root in roots if root > 0)
            self.assertIs(never_negative(made_of(factor, roots, pairs)), wanted)

    def test_edges(self):
        for polynomial, answer in (((), True), ((3,), True), ((-3,), False), ((0, 1), True), ((0, -1), False),
                                   ((-1, 1), False), ((1, -1), False), ((0, 0, 1), True), ((0, -1, 1), False),
                                   ((0, 1, -2, 1), True), ((1, 2, 1), True), ((-1, -1), False), ((-1, 0, 1), False),
                                   ((-1, 3, -3, 1), False), ((1, -4, 6, -4, 1), True), ((0, 0, 0, 1), True)):
            self.assertIs(never_negative(polynomial), answer, polynomial)
        self.assertIs(never_negative((1, -2 * 10 ** 30, LIMIT)), True)
        self.assertIs(never_negative((1, -2 * 10 ** 30, LIMIT - 1)), False)

    def test_errors(self):
        for value in BAD_POLYNOMIALS:
            self.raises(BadPolynomial, never_negative, value)


if __name__ == "__main__":
    unittest.main()
