"""Promises 19 and 20: taking poles away, the exchange of P. Richards, echoes."""

import random
import unittest
from fractions import Fraction

from coilnets.errors import BadFunction, BadRatio, NoFunction, NotPositive
from coilnets.functions import add, compose, constant, degree, function, multiply, subtract
from coilnets.positive import is_positive
from coilnets.removal import axis_split, echo_of, from_echo, pole_far, pole_near, richards
from helpers import BAD_FUNCTIONS, BAD_POSITIVES, LIMIT, LOSSLESS_12, NEGATIVES, ONE, POSITIVE_12, POSITIVES, S, ZERO
from helpers import CoilTest, as_fraction, as_ratio, parts_at, quotient_at, some_functions, some_impedances
from helpers import sum_of, tank

MINUS_S = ((0, -1), (1,))


class Example(CoilTest):

    def test_interface(self):
        one = ((1, 0, 2), (0, 3))
        self.assertEqual(pole_far(one), (2, 3))
        self.assertEqual(pole_near(one), (1, 3))
        self.assertEqual(axis_split(((1, 1, 1), (0, 1))), (((1, 0, 1), (0, 1)), ONE))
        self.assertEqual(richards(((2, 1), (1, 2)), (1, 1)), ((2,), (1,)))
        self.assertEqual(echo_of(((0, 1), (1,))), ((-1, 1), (1, 1)))
        self.assertEqual(from_echo(((1,), (3,))), ((2,), (1,)))


class Poles(CoilTest):

    def test_known(self):
        for one, far, near in ((ZERO, (0, 1), (0, 1)), (((5,), (7,)), (0, 1), (0, 1)), (S, (1, 1), (0, 1)),
                               (((1,), (0, 1)), (0, 1), (1, 1)), (((0, 1), (1, 1)), (0, 1), (0, 1)),
                               (((1, 1), (0, 3)), (0, 1), (1, 3)), (((4, 3, 2), (3, 6)), (1, 3), (0, 1)),
                               (LOSSLESS_12, (1, 1), (3, 1)), (POSITIVE_12, (1, 1), (1, 2)),
                               (((0, LIMIT), (LIMIT - 1,)), (LIMIT, LIMIT - 1), (0, 1))):
            self.assertEqual(pole_far(one), far, one)
            self.assertEqual(pole_near(one), near, one)

    def test_less_the_poles(self):
        for one in some_impedances(191, 60):
            far, near = pole_far(one), pole_near(one)
            less = subtract(subtract(one, ((0, far[0]), (far[1],)) if far[0] else ZERO),
                            ((near[0],), (0, near[1])) if near[0] else ZERO)
            self.assertLessEqual(len(less[0]), len(less[1]))
            self.assertNotEqual(less[1][0], 0)

    def test_errors(self):
        for call in (pole_far, pole_near, axis_split):
            for value in BAD_FUNCTIONS:
                self.raises(BadFunction, call, value)
            for one in NEGATIVES:
                self.raises(NotPositive, call, one)


class Split(CoilTest):

    def test_made_of_parts(self):
        """Each function has one split, so what a function was made of comes back."""
        source = random.Random(192)
        for _ in range(80):
            ends = [((0, source.randint(1, 9)), (source.randint(1, 9),)),
                    ((source.randint(1, 9),), (0, source.randint(1, 9)))]
            tanks = [tank(source.randint(1, 9), square, source.randint(1, 2)) for square in (3, 5, 7)]
            first = sum_of([function(*one) for one in source.sample(ends + tanks, source.randint(0, 3))])
            rests = [function((source.randint(1, 5),), (source.randint(1, 5), 1)), ((3,), (4,)), ((0, 1), (1, 2, 3)),
                     ((2, 1, 1), (1, 1, 1)), ((0, 5), (2, 1))]
            second = sum_of(source.sample(rests, source.randint(0, 3)))
            self.assertEqual(axis_split(add(first, second)), (first, second))

    def test_only_one_part(self):
        for one in (ZERO, S, ((1,), (0, 1)), ((1, 0, 1), (0, 1)), ((0, 1), (2, 0, 1)), LOSSLESS_12):
            self.assertEqual(axis_split(one), (one, ZERO))
        for one in (ONE, ((1,), (1, 1)), ((1, 0, 1), (1, 1, 1)), ((1, 1, 1), (4, 1, 1)), ((2, 1), (1, 1))):
            self.assertEqual(axis_split(one), (ZERO, one))

    def test_greatest_degree(self):
        first = sum_of([S, ((1,), (0, 2)), tank(1, 2), tank(5, 3, 7)])
        second = sum_of([((2,), (1,))] + [((k,), (k, 1)) for k in range(1, 7)])
        self.assertEqual(axis_split(POSITIVE_12), (first, second))

    def test_parts_are_positive_real(self):
        for one in list(POSITIVES) + some_impedances(193, 60):
            first, second = axis_split(one)
            self.assertEqual(add(first, second), one)
            self.assertTrue(is_positive(first) and is_positive(second))
            self.assertEqual(degree(first) + degree(second), degree(one))
            self.assertEqual(compose(first, MINUS_S), subtract(ZERO, first))
            self.assertEqual((pole_far(first), pole_near(first)), (pole_far(one), pole_near(one)))
            self.assertEqual(axis_split(first), (first, ZERO))
            self.assertEqual(axis_split(second), (ZERO, second))


class Richards(CoilTest):

    def test_values(self):
        source = random.Random(201)
        for one in some_functions(202, 200, 4, 5):
            k = Fraction(source.randint(1, 5), source.randint(1, 3))
            there = quotient_at(one, k)
            constant_product = there is not None and subtract(multiply(one, S), constant(as_ratio(there * k))) == ZERO
            if there is None or constant_product:
                self.raises(NoFunction, richards, one, as_ratio(k))
                continue
            found = richards(one, as_ratio(k))
            self.assertLessEqual(degree(found), degree(one))
            for place in (Fraction(-7, 3), Fraction(11, 2), Fraction(13)):
                value = quotient_at(one, place)
                if value is not None and k * there != place * value:
                    wanted = (k * value - place * there) / (k * there - place * value)
                    self.assertEqual(quotient_at(found, place), wanted)

    def test_positive_real(self):
        """If Z(k) is positive, the function is positive real exactly if Z is."""
        small = [one for one in POSITIVES + NEGATIVES if max(map(abs, one[0] + one[1])) < 10 ** 3]
        many = [0, 0]
        for one in small + some_impedances(203, 40):
            for k in ((1, 3), (2, 1)):
                there = quotient_at(one, as_fraction(k))
                if there is not None and there > 0 and one[1] != (0,) * len(one[0]) + one[1][-1:]:
                    self.assertEqual(is_positive(richards(one, k)), is_positive(one), (one, k))
                    many[is_positive(one)] += 1
        self.assertGreater(min(many), 30)

    def test_no_function(self):
        for one, k in ((ZERO, (1, 1)), (((1,), (0, 1)), (1, 1)), (((5,), (0, 3)), (7, 2)), (((-2,), (0, 1)), (1, 1)),
                       (((1,), (-1, 1)), (1, 1)), (((1, 5), (6, -5, 1)), (2, 1)), (((1,), (-1, 3)), (1, 3))):
            self.raises(NoFunction, richards, one, k)

    def test_known(self):
        for one, k, wanted in ((S, (3, 1), ZERO), (((0, 2), (5,)), (1, 2), ZERO), (ONE, (1, 1), ONE),
                               (ONE, (5, 7), ONE),
                               (((-1, 1), (1,)), (1, 1), ((-1,), (0, 1))), (((1,), (-1, 1)), (2, 1), ((-1, -1), (1,)))):
            self.assertEqual(richards(one, k), wanted)

    def test_errors(self):
        for value in BAD_FUNCTIONS:
            self.raises(BadFunction, richards, value, (1, 1))
            self.raises(BadFunction, richards, value, (0, 1))
        for value in BAD_POSITIVES:
            self.raises(BadRatio, richards, ONE, value)
            self.raises(BadRatio, richards, ZERO, value)


class Echo(CoilTest):

    def test_values(self):
        for one in some_functions(204, 150, 4, 5) + [ZERO, ONE, S, LOSSLESS_12, POSITIVE_12]:
            for call, barred in ((echo_of, ((-1,), (1,))), (from_echo, ONE)):
                if one == barred:
                    self.raises(NoFunction, call, one)
                    continue
                found = call(one)
                self.assertLessEqual(degree(found), degree(one))
                for place in (Fraction(0), Fraction(17, 3), Fraction(-5, 7)):
                    value = quotient_at(one, place)
                    if call == echo_of and value not in (None, -1):
                        self.assertEqual(quotient_at(found, place), (value - 1) / (value + 1))
                    if call == from_echo and value not in (None, 1):
                        self.assertEqual(quotient_at(found, place), (1 + value) / (1 - value))

    def test_there_and_back(self):
        for one in some_functions(205, 150, 5, 6):
            if one != ((-1,), (1,)):
                self.assertEqual(from_echo(echo_of(one)), one)
            if one != ONE:
                self.assertEqual(echo_of(from_echo(one)), one)

    def test_no_function(self):
        self.raises(NoFunction, echo_of, ((-1,), (1,)))
        self.raises(NoFunction, from_echo, ONE)
        self.assertEqual(echo_of(ONE), ZERO)
        self.assertEqual(echo_of(ZERO), ((-1,), (1,)))
        self.assertEqual(from_echo(((-1,), (1,))), ZERO)
        self.assertEqual(from_echo(ZERO), ONE)

    def test_size(self):
        """The echo is at most 1 in size to the right of the axis exactly for positive real functions."""
        places = [(Fraction(x, 7), Fraction(y, 3)) for x in (1, 3, 10, 40) for y in range(-9, 10, 2)]
        for one in POSITIVES:
            echo = echo_of(one)
            for x, y in places:
                real, other = parts_at(echo, x, y)
                self.assertLessEqual(real * real + other * other, 1, one)
        for one in (((0, 0, 1), (1,)), ((1,), (-1, 1)), ((-1, 1), (1,)), ((1, -1), (1, 1)), ((0, 1), (-1, 0, 1))):
            sizes = [parts_at(echo_of(one), x, y) for x, y in places]
            self.assertTrue(any([found is None or found[0] ** 2 + found[1] ** 2 > 1 for found in sizes]), one)

    def test_great_numbers(self):
        self.assertEqual(echo_of(((LIMIT,), (1, 1))), ((LIMIT - 1, -1), (LIMIT + 1, 1)))
        self.assertEqual(from_echo(((LIMIT,), (1, 1))), ((LIMIT + 1, 1), (1 - LIMIT, 1)))

    def test_errors(self):
        for value in BAD_FUNCTIONS:
            self.raises(BadFunction, echo_of, value)
            self.raises(BadFunction, from_echo, value)


if __name__ == "__main__":
    unittest.main()
