"""Promises 51 and 52: energies of answers in time, and their first values."""

import random
import unittest
from fractions import Fraction

from coilnets.energies import energy_of, first_values
from coilnets.errors import BadFunction, BadNumber, NotFading, NotProper
from coilnets.functions import add, compose, degree, function, multiply, subtract
from coilnets.roots import is_left
from helpers import BAD_FUNCTIONS, LIMIT, ODDITIES, ONE, S, SUM_OF_12, ZERO, CoilTest, as_fraction, power, product_of
from helpers import some_functions, sum_of

BAD_MANY = tuple([value for value in ODDITIES if value != 1 or value is True]) + (-1, 25, 100, LIMIT, (1,), "1")


def some_fading(seed, many, degree_of_bottom):
    """Functions whose bottoms are left, of a greater degree than their tops."""
    source = random.Random(seed)
    answer = []
    while len(answer) < many:
        bottom = product_of(*[(source.randint(1, 5), source.randint(0, 4), source.randint(1, 3)) for _ in range(
            degree_of_bottom // 2)], *[(source.randint(1, 5), source.randint(1, 3))] * (degree_of_bottom % 2))
        top = [source.randint(-5, 5) for _ in range(source.randint(1, degree_of_bottom))]
        while top and top[-1] == 0:
            top.pop()
        if is_left(bottom):
            answer.append(function(tuple(top), bottom))
    return answer


def solved(rows, values):
    """The solution of equations, by fractions."""
    rows = [[Fraction(one) for one in row] + [Fraction(value)] for row, value in zip(rows, values)]
    for at in range(len(rows)):
        pivot = next(k for k in range(at, len(rows)) if rows[k][at] != 0)
        rows[at], rows[pivot] = rows[pivot], rows[at]
        rows[at] = [one / rows[at][at] for one in rows[at]]
        for other in range(len(rows)):
            if other != at:
                rows[other] = [one - rows[other][at] * lead for one, lead in zip(rows[other], rows[at])]
    return [row[-1] for row in rows]


def backwards(polynomial):
    return [-one if at % 2 else one for at, one in enumerate(polynomial)]


def energy_by_hand(one):
    """The energy by the polynomial X, whose coefficients are found from equations."""
    top, bottom = one
    many = len(bottom) - 1
    squares = list(product_of(top, backwards(top))) + [0] * (2 * many)
    # X(s) A(-s) + X(-s) A(s) has even powers alone.
    less = backwards(bottom)
    rows = [[2 * less[2 * row - at] if 0 <= 2 * row - at <= many else 0 for at in range(many)] for row in range(many)]
    return solved(rows, squares[0:2 * many:2])[-1] / bottom[-1]


class Example(CoilTest):

    def test_interface(self):
        self.assertEqual(energy_of(((1,), (1, 1))), (1, 2))
        self.assertEqual(energy_of(((0, 1), (1, 1, 1))), (1, 2))
        self.assertEqual(first_values(((1, 1), (2, 1)), 4), ((1, 1), (-1, 1), (2, 1), (-4, 1)))


class Energy(CoilTest):

    def test_equations(self):
        for many in range(1, 13):
            for one in some_fading(511 + many, 12, many):
                if one != ZERO:
                    self.assertEqual(as_fraction(energy_of(one)), energy_by_hand(one))
                    self.assertGreater(energy_of(one)[0], 0)

    def test_sums_of_exponentials(self):
        """The answer of c / (s + a) is c exp(-a t); the integral of two such is c d / (a + b)."""
        source = random.Random(512)
        for _ in range(40):
            many = source.randint(1, 6)
            rates = source.sample(range(1, 30), many)
            sizes = [source.choice([-3, -2, -1, 1, 2, 3]) for _ in rates]
            one = sum_of([((size,), (rate, 1)) for size, rate in zip(sizes, rates)])
            wanted = sum(Fraction(c * d, a + b) for a, c in zip(rates, sizes) for b, d in zip(rates, sizes))
            self.assertEqual(as_fraction(energy_of(one)), wanted)
        self.assertEqual(as_fraction(energy_of(SUM_OF_12)),
                         sum(Fraction(1, a + b) for a in range(1, 13) for b in range(1, 13)))

    def test_known(self):
        """For 2 t exp(-t) and others worked out by hand."""
        for one, wanted in ((((2,), (1, 2, 1)), (1, 1)), (((3,), (2, 5)), (9, 20)), (((1,), (1, 1, 1)), (1, 2)),
                            (((1,), (1, 3, 3, 1)), (3, 16)), (((-1,), (LIMIT, 1)), (1, 2 * LIMIT)),
                            (((LIMIT,), (1, LIMIT)), (LIMIT // 2, 1)), (((0, 1), (1, 2, 1)), (1, 4))):
            self.assertEqual(energy_of(one), wanted, one)

    def test_scale(self):
        for one in some_fading(513, 20, 4):
            energy = as_fraction(energy_of(one))
            self.assertEqual(as_fraction(energy_of(multiply(one, ((-3,), (2,))))), energy * 9 / 4)
            # Twice as slow, the answer is half as great and takes twice as long.
            self.assertEqual(as_fraction(energy_of(compose(one, ((0, 2), (1,))))), energy / 2)

    def test_zero(self):
        self.assertEqual(energy_of(ZERO), (0, 1))

    def test_not_fading(self):
        for one in (ONE, ((-2,), (3,)), S, ((1, 1), (2, 1)), ((0, 1), (1, 1)), power(12), ((1, 0, 1), (2, 1)),
                    ((1,), (0, 1)), ((1,), (-1, 1)), ((1,), (1, -1, 1)), ((1,), (1, 0, 1)), ((1, 1), (2, 0, 1)),
                    ((1,), (0, 1, 1)), ((1,), (1, 1, 1, 1)), ((1,), (-1, 0, 1)), ((1,), (2, 2, 1, 1)),
                    ((1, 1, 1), (1, 1, 2)), ((1,), (1, 0, 2, 0, 1)), ((1,), (1,) * 13)):
            self.raises(NotFading, energy_of, one)
        for one in some_functions(514, 200, 3, 4):
            fades = one == ZERO or (len(one[0]) < len(one[1]) and is_left(one[1]))
            if fades:
                self.assertEqual(as_fraction(energy_of(one)), energy_by_hand(one) if one != ZERO else 0)
            else:
                self.raises(NotFading, energy_of, one)

    def test_great_numbers(self):
        one = function((LIMIT - 1, LIMIT - 3, LIMIT - 7), (LIMIT - 11, LIMIT, LIMIT - 13, 3))
        self.assertEqual(as_fraction(energy_of(one)), energy_by_hand(one))

    def test_errors(self):
        for value in BAD_FUNCTIONS:
            self.raises(BadFunction, energy_of, value)


class FirstValues(CoilTest):

    def test_series(self):
        """The function less the first terms, times a power of s, is 0 far out."""
        for one in some_functions(521, 150, 5, 6):
            if len(one[0]) > len(one[1]):
                self.raises(NotProper, first_values, one, 5)
                continue
            values = first_values(one, 24)
            self.assertEqual(len(values), 24)
            rest = one
            for at in range(6):
                top, bottom = rest
                ahead = Fraction(top[-1], bottom[-1]) if len(top) == len(bottom) else Fraction(0)
                self.assertEqual(as_fraction(values[at]), ahead)
                number = function((ahead.numerator,) if ahead else (), (ahead.denominator,))
                rest = multiply(subtract(rest, number), S)
            for many in (1, 2, 7):
                self.assertEqual(first_values(one, many), values[:many])

    def test_products(self):
        """The values times the bottom make the top, from the greatest power on, and 0 behind it."""
        for one in [SUM_OF_12] + some_functions(522, 40, 4, 9):
            top, bottom = one
            if len(top) <= len(bottom):
                values = [as_fraction(value) for value in first_values(one, 24)]
                many = len(bottom)
                for at in range(24):
                    total = sum(values[at - by] * bottom[many - 1 - by] for by in range(min(at + 1, many)))
                    power_there = many - 1 - at
                    self.assertEqual(total, top[power_there] if 0 <= power_there < len(top) else 0)

    def test_known(self):
        self.assertEqual(first_values(ZERO, 24), ((0, 1),) * 24)
        self.assertEqual(first_values(((3,), (7,)), 2), ((3, 7), (0, 1)))
        self.assertEqual(first_values(((1,), (0, 1)), 3), ((0, 1), (1, 1), (0, 1)))
        self.assertEqual(first_values(((1,), (-2, 1)), 5), ((0, 1), (1, 1), (2, 1), (4, 1), (8, 1)))
        self.assertEqual(first_values(((1,), (0,) * 12 + (2,)), 14), ((0, 1),) * 12 + ((1, 2), (0, 1)))
        self.assertEqual(first_values(((1, 1), (0, 0, 2)), 4), ((0, 1), (1, 2), (1, 2), (0, 1)))
        self.assertEqual(first_values(((LIMIT,), (1, LIMIT)), 3), ((0, 1), (1, 1), (-1, LIMIT)))

    def test_rank(self):
        """The rank of the table of values is the degree."""
        for one in some_functions(523, 40, 4, 4) + [add(ONE, ((1,), (k, 1, 1))) for k in range(5)]:
            if len(one[0]) <= len(one[1]):
                values = [as_fraction(value) for value in first_values(one, 12)]
                for size in range(degree(one), 6):
                    self.assertEqual(rank([[values[i + j + 1] for j in range(size)] for i in range(size)]), degree(one))

    def test_not_proper(self):
        for one in (S, ((1, 1), (1,)), ((1, 0, 1), (0, 1)), power(12), ((1,) * 13, (1,) * 11 + (2,))):
            for many in (1, 24):
                self.raises(NotProper, first_values, one, many)
        self.assertEqual(first_values(((1,) * 12 + (5,), (1,) * 13), 1), ((5, 1),))

    def test_errors(self):
        for value in BAD_FUNCTIONS:
            self.raises(BadFunction, first_values, value, 3)
            self.raises(BadFunction, first_values, value, None)
        for value in BAD_MANY:
            self.raises(BadNumber, first_values, ONE, value)
            self.raises(BadNumber, first_values, S, value)


def rank(rows):
    rows = [list(row) for row in rows]
    found = 0
    for column in range(len(rows)):
        pivots = [at for at in range(found, len(rows)) if rows[at][column] != 0]
        if pivots:
            rows[found], rows[pivots[0]] = rows[pivots[0]], rows[found]
            for at in range(found + 1, len(rows)):
                factor = rows[at][column] / rows[found][column]
                rows[at] = [one - factor * lead for one, lead in zip(rows[at], rows[found])]
            found += 1
    return found


if __name__ == "__main__":
    unittest.main()
