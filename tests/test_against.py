"""Promise 17: points that show that a function is not positive real, values at points."""

import random
import unittest
from fractions import Fraction

from coilnets.against import point_against, shows_against, value_at_point
from coilnets.errors import BadFunction, BadPoint
from coilnets.functions import add, subtract, value_at
from coilnets.positive import is_positive
from helpers import BAD_FUNCTIONS, BAD_POINTS, LIMIT, LOSSLESS_12, NEGATIVES, ONE, POSITIVES, S, ZERO, CoilTest
from helpers import as_ratio, parts_at, some_functions, some_impedances, tank


class Example(CoilTest):

    def test_interface(self):
        square = ((0, 0, 1), (1,))
        self.assertEqual(value_at_point(square, ((1, 1), (2, 1))), ((-3, 1), (4, 1)))
        self.assertIs(shows_against(square, ((1, 1), (2, 1))), True)
        self.assertIs(shows_against(((0, 1), (1,)), ((1, 1), (2, 1))), False)
        self.assertIsNone(point_against(((0, 1), (1,))))


class Against(CoilTest):

    def shown(self, one):
        """Looks at the point against a function, if there is one."""
        found = point_against(one)
        self.assertEqual(found is None, is_positive(one), one)
        if found is not None:
            x, y = Fraction(*found[0]), Fraction(*found[1])
            self.assertEqual(found, (as_ratio(x), as_ratio(y)))
            self.assertGreater(x, 0)
            self.assertLess(parts_at(one, x, y)[0], 0, (one, found))
            self.assertIs(shows_against(one, found), True)
        return found

    def test_positive_real(self):
        for one in POSITIVES:
            self.assertIsNone(self.shown(one))

    def test_not_positive_real(self):
        for one in NEGATIVES:
            self.assertIsNotNone(self.shown(one))

    def test_some_functions(self):
        for one in some_functions(171, 200, 4, 3) + some_functions(172, 40, 8, 9) + some_functions(173, 10, 12, LIMIT):
            self.shown(one)

    def test_impedances_less_a_little(self):
        for one in some_impedances(174, 30):
            for less in ((1,), (10 ** 6,)), ((1,), (3,)), ((0, 1), (7,)), ((1,), (0, 7)), tank(1, 2):
                self.shown(subtract(one, less))

    def test_points_that_are_hard_to_find(self):
        """Far out, near the axis, or about a pole, all at places that are known."""
        many = 10 ** 25
        for one in (((-many, 1), (1,)), ((-1, many), (1,)), ((many, -1), (1,)), ((1, -1), (many,)),
                    add(ONE, ((1,), (-many, 3 * many))), add(ONE, ((1,), (5 * many, -2 * many, many))),
                    add(ONE, ((1,), (-many * many, many))), subtract(LOSSLESS_12, ((1,), (many,))),
                    subtract(LOSSLESS_12, ((0, 2 * many + 1), (2 * many, 0, many)))):
            self.assertIsNotNone(self.shown(one))

    def test_errors(self):
        for value in BAD_FUNCTIONS:
            self.raises(BadFunction, point_against, value)
            self.raises(BadFunction, shows_against, value, ((1, 1), (1, 1)))
            self.raises(BadFunction, shows_against, value, None)


class Shows(CoilTest):

    def test_values_that_are_no_points(self):
        for value in BAD_POINTS:
            self.assertIs(shows_against(((-1,), (1,)), value), False, value)

    def test_sides(self):
        """x must be positive; y is free; the real part must be less than 0."""
        minus_one = ((-1,), (1,))
        for x, y, wanted in (((1, 1), (0, 1), True), ((1, LIMIT), (-LIMIT, 1), True), ((0, 1), (0, 1), False),
                             ((0, 1), (1, 1), False), ((-1, LIMIT), (1, 1), False), ((-3, 1), (0, 1), False)):
            self.assertIs(shows_against(minus_one, (x, y)), wanted, (x, y))
        for x, y, wanted in (((1, 1), (1, 1), False), ((1, 1), (2, 1), True), ((2, 1), (1, 1), False),
                             ((1, 1), (-2, 1), True), ((99, 100), (1, 1), True), ((1, 1), (0, 1), False)):
            self.assertIs(shows_against(((0, 0, 1), (1,)), (x, y)), wanted, (x, y))

    def test_poles_and_zero(self):
        pole = ((1,), (-1, 1))
        self.assertIs(shows_against(pole, ((1, 1), (0, 1))), False)
        self.assertIs(shows_against(pole, ((1, 2), (0, 1))), True)
        self.assertIs(shows_against(pole, ((2, 1), (0, 1))), False)
        self.assertIs(shows_against(ZERO, ((1, 1), (0, 1))), False)
        self.assertIs(shows_against(((-1,), (2, -2, 1)), ((1, 1), (1, 1))), False)


class Value(CoilTest):

    def test_some_functions(self):
        source = random.Random(175)
        for one in some_functions(176, 200, 5, 9):
            x, y = [Fraction(source.randint(-4, 4), source.randint(1, 3)) for _ in range(2)]
            there = parts_at(one, x, y)
            wanted = None if there is None else (as_ratio(there[0]), as_ratio(there[1]))
            self.assertEqual(value_at_point(one, (as_ratio(x), as_ratio(y))), wanted)
            real = value_at(one, as_ratio(x))
            wanted = None if real is None else (real, (0, 1))
            self.assertEqual(value_at_point(one, (as_ratio(x), (0, 1))), wanted)

    def test_poles(self):
        for one, point in ((((1,), (1, 0, 1)), ((0, 1), (1, 1))), (((1,), (1, 0, 1)), ((0, 1), (-1, 1))),
                           (((1,), (-1, 2)), ((1, 2), (0, 1))), (((3, 1), (5, -4, 4)), ((1, 2), (-1, 1))),
                           (((1,), (0, 1)), ((0, 1), (0, 1)))):
            self.assertIsNone(value_at_point(one, point))
        self.assertEqual(value_at_point(((1,), (0, 1)), ((0, 1), (2, 1))), ((0, 1), (-1, 2)))

    def test_great_numbers(self):
        point = ((LIMIT, 1), (1, LIMIT))
        self.assertEqual(value_at_point(S, point), point)
        self.assertEqual(value_at_point(((0, 0, LIMIT), (1,)), ((1, 1), (LIMIT, 1))),
                         ((LIMIT - LIMIT ** 3, 1), (2 * LIMIT ** 2, 1)))

    def test_errors(self):
        for value in BAD_POINTS:
            self.raises(BadPoint, value_at_point, ONE, value)
        for value in BAD_FUNCTIONS:
            self.raises(BadFunction, value_at_point, value, ((1, 1), (1, 1)))
            self.raises(BadFunction, value_at_point, value, "point")


if __name__ == "__main__":
    unittest.main()
