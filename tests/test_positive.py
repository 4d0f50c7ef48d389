"""Promises 15, 16 and 18: which functions are positive real, and their real part on the axis."""

import unittest
from fractions import Fraction

from coilnets.errors import BadFunction, BadRatio
from coilnets.functions import add, compose, constant, degree, reciprocal, subtract, value_at
from coilnets.positive import axis_part, can_lose, is_positive, passes_poles
from helpers import BAD_FUNCTIONS, BAD_RATIOS, LIMIT, LOSSLESS_12, NEGATIVES, ONE, POSITIVE_12, POSITIVES, S, TOUCHING
from helpers import ZERO, CoilTest, as_ratio, parts_at, product_of, some_functions, some_impedances, tank


class Example(CoilTest):

    def test_interface(self):
        one = ((1, 1, 1), (4, 1, 1))
        self.assertIs(is_positive(one), True)
        self.assertIs(passes_poles(((0, 0, 1), (1,))), False)
        self.assertEqual(axis_part(((1, 1), (2, 1))), ((2, 1), (4, 1)))
        self.assertIs(can_lose(((2, 1), (1, 1)), (1, 1)), True)
        self.assertIs(can_lose(((2, 1), (1, 1)), (3, 2)), False)


class Positive(CoilTest):

    def test_positive_real(self):
        for one in POSITIVES:
            self.assertIs(is_positive(one), True, one)
            self.assertIs(passes_poles(one), True, one)

    def test_not_positive_real(self):
        for one in NEGATIVES:
            self.assertIs(is_positive(one), False, one)
            self.assertIs(passes_poles(one), False, one)

    def test_greatest_degree(self):
        for one in (LOSSLESS_12, POSITIVE_12):
            self.assertEqual(degree(one), 12)
            for other in (reciprocal(one), compose(one, reciprocal(S)), compose(one, ((0, 3), (2,)))):
                self.assertTrue(is_positive(other) and passes_poles(other))
                turned = compose(other, ((0, -1), (1,)))
                self.assertFalse(is_positive(turned) or passes_poles(turned))

    def test_the_two_agree(self):
        many = [0, 0]
        for one in some_functions(151, 700, 3, 2) + some_functions(152, 300, 5, 2) + some_functions(153, 300, 2, 4):
            self.assertEqual(is_positive(one), passes_poles(one), one)
            many[is_positive(one)] += 1
        self.assertGreater(min(many), 100)

    def test_networks(self):
        for one in some_impedances(154, 80):
            self.assertTrue(is_positive(one) and passes_poles(one), one)
            self.assertFalse(is_positive(subtract(ZERO, one)) or passes_poles(subtract(ZERO, one)), one)

    def test_what_keeps_it(self):
        """Sums, reciprocals, and one in another one's place of s; impedances that lose a little may no longer be so."""
        found = some_impedances(155, 30, 3, 4)
        for one, other in zip(found, found[1:]):
            self.assertTrue(is_positive(add(one, other)) and is_positive(reciprocal(one)))
            self.assertTrue(len(other[0]) == len(other[1]) == 1 or is_positive(compose(one, other)))
            less = subtract(one, ((1,), (5,)))
            self.assertEqual(is_positive(less), passes_poles(less), less)

    def test_limits_at_poles(self):
        """A pole on the axis needs a positive limit, one with another part will not do, and it must be simple."""
        rest = ((5, 3), (1, 1))
        for square in (1, 2, 3):
            below = (square, 0, 1)
            for more, wanted in ((tank(1, square), True), (tank(-1, square), False), (tank(10 ** 50, square), True),
                                 (((1,), below), False), (((1, 1), below), False), (((-1, 1), below), False),
                                 (((0, 1), product_of(below, below)), False),
                                 (((0, 0, 0, 1), product_of(below, below)), False)):
                self.assertIs(is_positive(add(rest, more)), wanted, more)
                self.assertIs(passes_poles(add(rest, more)), wanted, more)
        many = 10 ** 50
        for more, wanted in ((S, True), (((0, -1), (many,)), False), (((0, 0, 1), (many,)), False),
                             (((1,), (0, many)), True), (((-1,), (0, many)), False), (((1,), (0, 0, many)), False)):
            self.assertIs(is_positive(add(rest, more)), wanted, more)
            self.assertIs(passes_poles(add(rest, more)), wanted, more)

    def test_errors(self):
        for value in BAD_FUNCTIONS:
            self.raises(BadFunction, is_positive, value)
            self.raises(BadFunction, passes_poles, value)
            self.raises(BadFunction, axis_part, value)


class AxisPart(CoilTest):

    def test_values(self):
        for one in some_functions(161, 150, 4, 5) + list(POSITIVES + NEGATIVES):
            found = axis_part(one)
            self.assertLessEqual(degree(found), 12)
            for w in (Fraction(0), Fraction(1, 3), Fraction(2), Fraction(7, 2)):
                there = parts_at(one, Fraction(0), w)
                if there is not None:
                    self.assertEqual(value_at(found, as_ratio(w * w)), as_ratio(there[0]), (one, w))

    def test_known(self):
        for one, wanted in ((ZERO, ZERO), (((-2,), (3,)), ((-2,), (3,))), (S, ZERO), (((1,), (0, 1)), ZERO),
                            (LOSSLESS_12, ZERO), (((0, 0, 1), (1,)), ((0, -1), (1,))),
                            (((1,), (0, 0, 1)), ((-1,), (0, 1))),
                            (((1, 1), (0, 1)), ONE), (((1, 1), (1, 0, 1)), ((-1,), (-1, 1))),
                            (TOUCHING, ((4, -4, 1), (16, -7, 1)))):
            self.assertEqual(axis_part(one), wanted)

    def test_greatest_degree(self):
        one = ((1,), (1,) + (0,) * 11 + (2,))
        self.assertEqual(axis_part(one), ((1,), (1,) + (0,) * 5 + (2,)))
        one = ((1,) + (0,) * 11 + (1,), (1,) + (0,) * 10 + (1, 1))
        self.assertEqual(degree(axis_part(one)), 12)


class CanLose(CoilTest):

    def test_known(self):
        for one, ratio, wanted in (
                (TOUCHING, (0, 1), True), (TOUCHING, (1, 10 ** 30), False), (TOUCHING, (-1, 10 ** 30), True),
                (ONE, (1, 1), True), (ONE, (LIMIT + 1 - 2, LIMIT), True), (ONE, (LIMIT, LIMIT - 1), False),
                (((-3,), (1,)), (-3, 1), True), (((-3,), (1,)), (-4, 1), True), (((-3,), (1,)), (0, 1), False),
                (S, (0, 1), True), (S, (1, 9), False), (ZERO, (0, 1), True), (ZERO, (1, 9), False),
                (((0, 0, 1), (1,)), (-LIMIT, 1), False), (((-1, 1), (1,)), (-1, 1), True),
                (((-1, 1), (1,)), (-1, 2), False), (POSITIVE_12, (2, 1), True), (POSITIVE_12, (6, 1), False)):
            self.assertIs(can_lose(one, ratio), wanted, (one, ratio))

    def test_as_the_difference(self):
        for one in some_impedances(181, 40, 3, 5):
            for ratio in ((0, 1), (1, 3), (1, 1), (3, 1), (-2, 1)):
                self.assertEqual(can_lose(one, ratio), is_positive(subtract(one, constant(ratio))), (one, ratio))

    def test_errors(self):
        for value in BAD_FUNCTIONS:
            self.raises(BadFunction, can_lose, value, (1, 1))
            self.raises(BadFunction, can_lose, value, (2, 2))
        for value in BAD_RATIOS:
            self.raises(BadRatio, can_lose, ONE, value)
            self.raises(BadRatio, can_lose, NEGATIVES[0], value)


if __name__ == "__main__":
    unittest.main()
