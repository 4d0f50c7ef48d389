"""Promises 1 to 4: ratios, polynomials, functions and arithmetic with them."""

import copy
import unittest
from fractions import Fraction
from itertools import product

from coilnets.errors import BadFunction, BadPolynomial, BadRatio, NoFunction, TooLarge
from coilnets.functions import add, compose, constant, degree, divide, function, multiply, reciprocal, subtract
from coilnets.functions import value_at
from helpers import BAD_FUNCTIONS, BAD_POLYNOMIALS, BAD_RATIOS, LIMIT, ONE, S, ZERO, CoilTest
from helpers import as_fraction, as_ratio, power, product_of, quotient_at, some_functions

TWO_PLACE = (add, subtract, multiply, divide, compose)


class Example(CoilTest):

    def test_interface(self):
        one = function((0, 2, 2), (2, 0, 2))
        self.assertEqual(one, ((0, 1, 1), (1, 0, 1)))
        self.assertEqual(degree(one), 2)
        self.assertEqual(value_at(one, (1, 2)), (3, 5))
        self.assertEqual(add(one, one), ((0, 2, 2), (1, 0, 1)))
        self.assertEqual(divide(one, S), ((1, 1), (1, 0, 1)))
        self.assertEqual(compose(one, ((1,), (0, 1))), ((1, 1), (1, 0, 1)))
        self.assertIsNone(value_at(((1,), (0, 1)), (0, 1)))


class Form(CoilTest):

    def test_function(self):
        for top, bottom, answer in (
                ((), (5,), ZERO), ((), (0, -3), ZERO), ((4,), (6,), ((2,), (3,))), ((4,), (-6,), ((-2,), (3,))),
                ((1,), (0, -1), ((-1,), (0, 1))), ((-1, 0, 1), (1, 1), ((-1, 1), (1,))),
                ((2, 4), (6, 2), ((1, 2), (3, 1))), ((2, 4), (3, 1), ((2, 4), (3, 1))),
                ((1, 2, 1), (-1, 0, 1), ((1, 1), (-1, 1))), ((0, 0, 3), (0, 6), ((0, 1), (2,))),
                ((3, 3), (2, 2), ((3,), (2,))), ((1, 3, 2), (1, 5, 6), ((1, 1), (1, 3)))):
            self.assertEqual(function(top, bottom), answer)

    def test_greatest_values(self):
        wide = (LIMIT,) + (0,) * 11 + (-LIMIT,)
        self.assertEqual(function(wide, (LIMIT,)), ((1,) + (0,) * 11 + (-1,), (1,)))
        self.assertEqual(function((1,), wide), ((-1,), (-LIMIT,) + (0,) * 11 + (LIMIT,)))
        near = (LIMIT, LIMIT - 1)
        self.assertEqual(function(near, near), ONE)
        self.assertEqual(function((LIMIT, LIMIT), near), ((LIMIT, LIMIT), near))

    def test_common_divisors_go(self):
        """Whatever divides both top and bottom is taken out, and equal quotients are equal tuples."""
        shares = ((1,), (-7,), (0, 1), (3, -2), (1, 0, 1), (2, 2, 4), (-5, 0, 0, 10), (1, 2, 3, 4, 5))
        for one in some_functions(3, 25, 4, 9) + some_functions(4, 25, 4, 10 ** 20):
            for share in shares:
                self.assertEqual(function(product_of(one[0], share) if one[0] else (), product_of(one[1], share)), one)

    def test_quotients_of_powers(self):
        """A divisor may have greater coefficients than what it divides."""
        cyclotomic = (1, 1, 1, 0, 0, -1, -1, -2, -1)
        ahead = product_of((-1, 1), (1, 1, 1))
        self.assertEqual(function(product_of(cyclotomic, ahead), cyclotomic), (ahead, (1,)))
        for many, other in product(range(1, 13), range(1, 13)):
            top = (-1,) + (0,) * (many - 1) + (1,)
            bottom = (-1,) + (0,) * (other - 1) + (1,)
            shared = max(k for k in range(1, 13) if many % k == 0 and other % k == 0)
            answer = function(top, bottom)
            self.assertEqual(degree(answer), max(many, other) - shared)
            self.assertEqual(value_at(answer, (2, 1)), as_ratio(Fraction(2 ** many - 1, 2 ** other - 1)))

    def test_constant(self):
        for ratio in ((0, 1), (1, 1), (-3, 1), (5, 7), (-LIMIT, LIMIT - 1), (1, LIMIT)):
            one = constant(ratio)
            self.assertEqual(one, ((ratio[0],) if ratio[0] else (), (ratio[1],)))
            self.assertEqual(degree(one), 0)
            self.assertEqual(value_at(one, (9, 4)), ratio)

    def test_degree(self):
        for one, answer in ((ZERO, 0), (ONE, 0), (S, 1), (((1,), (0, 1)), 1), (((1, 2), (1, 0, 0, 1)), 3),
                            (((1, 0, 0, 1, 1), (2, 1)), 4), (power(12), 12), (((1,), (1,) + (0,) * 11 + (1,)), 12)):
            self.assertEqual(degree(one), answer)

    def test_value_at(self):
        places = [Fraction(n, d) for n in (-7, -2, -1, 0, 1, 3, 10) for d in (1, 2, 9)]
        for one in some_functions(5, 40, 12, 6):
            for place in places:
                value = quotient_at(one, place)
                self.assertEqual(value_at(one, as_ratio(place)), None if value is None else as_ratio(value))

    def test_value_at_edges(self):
        self.assertEqual(value_at(ZERO, (5, 3)), (0, 1))
        self.assertEqual(value_at(S, (-LIMIT, LIMIT - 1)), (-LIMIT, LIMIT - 1))
        self.assertEqual(value_at(power(12), (LIMIT, 1)), (LIMIT ** 12, 1))
        self.assertEqual(value_at(((1,), (1, 0, 1)), (1, LIMIT)), (LIMIT ** 2, LIMIT ** 2 + 1))
        self.assertIsNone(value_at(((1, 1), (-2, 3)), (2, 3)))
        self.assertEqual(value_at(((-2, 3), (1, 1)), (2, 3)), (0, 1))


class Arithmetic(CoilTest):

    def test_values_add_up(self):
        some = some_functions(6, 14, 4, 5) + some_functions(7, 2, 4, 10 ** 30) + [ZERO, ONE, S]
        for one, other in product(some, some):
            answers = [add(one, other), subtract(one, other), multiply(one, other)]
            if other != ZERO:
                answers.append(divide(one, other))
            for place in (Fraction(17, 5), Fraction(-23, 7), Fraction(101)):
                u, v = quotient_at(one, place), quotient_at(other, place)
                wanted = [u + v, u - v, u * v] + ([u / v] if other != ZERO else [])
                self.assertEqual([quotient_at(answer, place) for answer in answers], wanted)
            for answer in answers:
                self.assertEqual(function(*answer) if max(map(abs, answer[0] + answer[1])) <= LIMIT else answer, answer)

    def test_reciprocal(self):
        self.assertEqual(reciprocal(((-2,), (3, 1))), ((-3, -1), (2,)))
        for one in some_functions(8, 40, 12, 9):
            if one != ZERO:
                self.assertEqual(multiply(one, reciprocal(one)), ONE)
                self.assertEqual(reciprocal(one), divide(ONE, one))

    def test_compose(self):
        self.assertEqual(compose(((1, 1), (2, 1)), ((1,), (0, 1))), ((1, 1), (1, 2)))
        self.assertEqual(compose(((0, 0, 1), (1,)), ((1, 1), (0, 1))), ((1, 2, 1), (0, 0, 1)))
        self.assertEqual(compose(((3,), (2,)), power(12)), ((3,), (2,)))
        self.assertEqual(compose(((1, 1), (1, -2, 1)), ((1,), (2,))), ((6,), (1,)))
        self.assertEqual(compose(((0, 5), (1, 7)), ZERO), ZERO)
        for one, other in product(some_functions(9, 12, 3, 5), some_functions(10, 12, 4, 5)):
            place = Fraction(37, 11)
            inner = quotient_at(other, place)
            wanted = quotient_at(one, inner)
            if wanted is None:
                self.raises(NoFunction, compose, one, other)
            else:
                self.assertEqual(quotient_at(compose(one, other), place), wanted)

    def test_equal_arguments_have_equal_answers(self):
        for one, other in product(some_functions(11, 6, 6, 5), some_functions(12, 6, 6, 5)):
            self.assertEqual(add(one, other), add(other, one))
            self.assertEqual(subtract(add(one, other), other), one)
            self.assertEqual(subtract(one, one), ZERO)
            self.assertEqual(multiply(one, other), multiply(other, one))


class NoAnswer(CoilTest):

    def test_no_function(self):
        self.raises(NoFunction, function, (1,), ())
        self.raises(NoFunction, function, (), ())
        for one in (ZERO, ONE, S):
            self.raises(NoFunction, divide, one, ZERO)
        self.raises(NoFunction, reciprocal, ZERO)
        self.raises(NoFunction, compose, ((1,), (0, 1)), ZERO)
        self.raises(NoFunction, compose, ((1, 1), (-1, 2)), ((1,), (2,)))
        self.raises(NoFunction, compose, power(12)[::-1], ZERO)

    def test_degree_12_and_13(self):
        six = ((1,), (2, 0, 0, 0, 0, 0, 1))
        other_six = ((3,), (1, 0, 0, 0, 0, 0, 1))
        other_seven = ((3,), (1, 0, 0, 0, 0, 0, 0, 1))
        self.assertEqual(add(six, other_six), ((7,) + (0,) * 5 + (4,), (2,) + (0,) * 5 + (3,) + (0,) * 5 + (1,)))
        self.assertEqual(degree(subtract(six, other_six)), 12)
        self.assertEqual(multiply(power(5), power(7)), power(12))
        self.assertEqual(divide(power(5), reciprocal(power(7))), power(12))
        self.assertEqual(compose(power(3), power(4)), power(12))
        self.assertEqual(compose(power(1), power(12)), power(12))
        self.assertEqual(compose(power(12), S), power(12))
        for call, one, other in (
                (add, six, other_seven), (subtract, six, other_seven), (multiply, six, other_seven),
                (multiply, power(6), power(7)), (divide, power(6), reciprocal(power(7))),
                (compose, power(7), power(2)), (compose, power(2), other_seven), (compose, power(12), power(12))):
            self.assertEqual(self.raises(TooLarge, call, one, other).most, 12)

    def test_thirteen(self):
        """Degree 13 is just beyond the limit, and what is taken out does not count."""
        self.assertEqual(self.raises(TooLarge, multiply, power(12), S).most, 12)
        self.assertEqual(self.raises(TooLarge, divide, power(12), reciprocal(S)).most, 12)
        self.assertEqual(self.raises(TooLarge, add, power(12), reciprocal(S)).most, 12)
        self.assertEqual(self.raises(TooLarge, subtract, reciprocal(S), power(12)).most, 12)
        self.assertEqual(divide(power(12), power(12)), ONE)
        self.assertEqual(multiply(power(12), reciprocal(power(12))), ONE)
        self.assertEqual(add(power(12), power(12)), ((0,) * 12 + (2,), (1,)))
        self.assertEqual(subtract(power(12), power(12)), ZERO)

    def test_answers_of_any_size(self):
        great = ((LIMIT,), (1,))
        self.assertEqual(multiply(great, great), ((LIMIT ** 2,), (1,)))
        self.assertEqual(add(great, great), ((2 * LIMIT,), (1,)))
        self.assertEqual(compose(power(12), great), ((LIMIT ** 12,), (1,)))


class WrongArguments(CoilTest):

    def test_ratios(self):
        for value in BAD_RATIOS:
            self.raises(BadRatio, constant, value)
            self.raises(BadRatio, value_at, S, value)
        for ratio in ((LIMIT, 1), (-LIMIT, 1), (1, LIMIT), (0, 1)):
            self.assertEqual(value_at(S, ratio), ratio)

    def test_polynomials(self):
        for value in BAD_POLYNOMIALS:
            self.raises(BadPolynomial, function, value, (1,))
            self.raises(BadPolynomial, function, (1,), value)
            self.raises(BadPolynomial, function, value, ())
            self.raises(BadPolynomial, function, value, value)

    def test_functions(self):
        for value in BAD_FUNCTIONS:
            for call in (degree, reciprocal):
                self.raises(BadFunction, call, value)
            for call in TWO_PLACE:
                self.raises(BadFunction, call, value, ONE)
                self.raises(BadFunction, call, ONE, value)
                self.raises(BadFunction, call, value, ZERO)
            self.raises(BadFunction, value_at, value, (1, 1))

    def test_leftmost_first(self):
        self.raises(BadFunction, value_at, None, None)
        self.raises(BadFunction, value_at, ((1,), (2, 2, 0)), (2, 4))
        self.raises(BadFunction, compose, power(12), ((0,) * 13 + (1,), (1,)))

    def test_limits_of_functions(self):
        for one in (((LIMIT,), (1,)), ((-LIMIT,), (LIMIT - 1,)), power(12), ((1,), power(12)[0]), ((-1,), (1,) * 13)):
            self.assertEqual(add(one, ZERO), one)
        for one in (((LIMIT + 1,), (1,)), ((-LIMIT - 1,), (1,)), ((1,), (LIMIT + 1,)), power(13), ((1,), (1,) * 14)):
            self.raises(BadFunction, add, one, ZERO)

    def test_arguments_stay(self):
        for value in ([[1], [1]], {"a": [1]}, ([0, 1], [1]), ((1,), [2])):
            before = copy.deepcopy(value)
            self.raises(BadFunction, add, value, ONE)
            self.raises(BadFunction, add, ONE, value)
            self.raises(BadRatio, constant, value)
            self.raises(BadPolynomial, function, value, (1,))
            self.assertEqual(value, before)

    def test_ratio_values(self):
        self.assertEqual(as_fraction(value_at(((1, 2), (3, 1)), (2, 5))), Fraction(9, 17))


if __name__ == "__main__":
    unittest.main()
