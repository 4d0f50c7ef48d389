"""Promise 27: lossless functions as sums of poles."""

import random
import unittest
from fractions import Fraction

from coilnets.errors import BadFunction, NotLossless
from coilnets.tanks import tank_parts
from helpers import BAD_FUNCTIONS, LIMIT, LOSSLESS_12, NOT_LOSSLESS, S, ZERO, CoilTest, as_ratio, lossless_of
from helpers import some_impedances, sum_of, tank


def with_parts(far, near, tanks):
    """The sum of far s, near / s and the poles of pairs (square, limit) of fractions."""
    ends = [((0, far.numerator), (far.denominator,)) if far else ZERO,
            ((near.numerator,), (0, near.denominator)) if near else ZERO]
    poles = []
    for square, limit in tanks:
        above = limit.numerator * square.denominator
        poles.append(((0, above), (square.numerator * limit.denominator, 0, square.denominator * limit.denominator)))
    return sum_of(ends + poles)


def told(far, near, tanks):
    pairs = [(as_ratio(square), as_ratio(limit)) for square, limit in sorted(tanks)]
    return as_ratio(far), as_ratio(near), tuple(pairs)


class Example(CoilTest):

    def test_interface(self):
        self.assertEqual(tank_parts(((9, 0, 10, 0, 1), (0, 4, 0, 1))), ((1, 1), (9, 4), (((4, 1), (15, 4)),)))
        self.assertIsNone(tank_parts(((0, 3, 0, 2), (1, 0, 3, 0, 1))))


class Parts(CoilTest):

    def test_made_of_parts(self):
        source = random.Random(271)
        squares = sorted({Fraction(n, d) for n in range(1, 8) for d in range(1, 5)})
        for _ in range(150):
            tanks = [(square, Fraction(source.randint(1, 9), source.randint(1, 9)))
                     for square in source.sample(squares, source.randint(0, 5))]
            far, near = [Fraction(source.randint(0, 2), source.randint(1, 3)) for _ in range(2)]
            self.assertEqual(tank_parts(with_parts(far, near, tanks)), told(far, near, tanks))

    def test_ends(self):
        none = (0, 1)
        self.assertEqual(tank_parts(ZERO), (none, none, ()))
        self.assertEqual(tank_parts(S), ((1, 1), none, ()))
        self.assertEqual(tank_parts(((2,), (0, 3))), (none, (2, 3), ()))
        self.assertEqual(tank_parts(((3, 0, 2), (0, 6))), ((1, 3), (1, 2), ()))
        self.assertEqual(tank_parts(((0, 6), (3, 0, 2))), (none, none, (((3, 2), (3, 1)),)))

    def test_greatest_degree(self):
        tanks = tuple([((k, 1), (k, 1)) for k in (1, 2, 3, 4, 5)])
        self.assertEqual(tank_parts(LOSSLESS_12), ((1, 1), (3, 1), tanks))

    def test_great_numbers(self):
        tanks = [(Fraction(k, 10 ** 9 + k), Fraction(10 ** 9 - k)) for k in (1, 2)]
        tanks.append((Fraction(10 ** 9), Fraction(1, 7)))
        self.assertEqual(tank_parts(with_parts(Fraction(0), Fraction(1, 3), tanks)),
                         told(Fraction(0), Fraction(1, 3), tanks))
        self.assertEqual(tank_parts(((0, 1), (LIMIT - 1, 0, LIMIT))),
                         ((0, 1), (0, 1), (((LIMIT - 1, LIMIT), (1, LIMIT)),)))

    def test_squares_that_are_no_ratios(self):
        golden = ((0, 3, 0, 2), (1, 0, 3, 0, 1))
        for one in (golden, sum_of([golden, tank(1, 2), tank(1, 7), S]), ((0, 1, 0, 1), (1, 0, 4, 0, 2)),
                    ((0, 10 ** 40, 0, 2), (1, 0, 10 ** 40, 0, 1)), ((0, 1, 0, 2), (2, 0, 9, 0, 8))):
            self.assertIsNone(tank_parts(one))
        # Squares alone count, and those of the poles alone: the places need not be ratios.
        self.assertEqual(tank_parts(((2, 0, 4, 0, 1), (0, 1, 0, 1))), ((1, 1), (2, 1), (((1, 1), (1, 1)),)))
        self.assertEqual(tank_parts(lossless_of((Fraction(3, 2),), (1, 2))),
                         ((0, 1), (0, 1), (((1, 1), (1, 1)), ((2, 1), (1, 1)))))

    def test_sums(self):
        many = 0
        for one in some_impedances(272, 80, kinds="LC"):
            found = tank_parts(one)
            if found is not None:
                far, near, tanks = found
                pairs = [(Fraction(*square), Fraction(*limit)) for square, limit in tanks]
                self.assertEqual(pairs, sorted(pairs))
                self.assertTrue(all(square > 0 and limit > 0 for square, limit in pairs))
                self.assertEqual(with_parts(Fraction(*far), Fraction(*near), pairs), one)
                many += 1
        self.assertGreater(many, 40)

    def test_errors(self):
        for value in BAD_FUNCTIONS:
            self.raises(BadFunction, tank_parts, value)
        for one in NOT_LOSSLESS:
            self.raises(NotLossless, tank_parts, one)


if __name__ == "__main__":
    unittest.main()
