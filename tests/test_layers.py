"""Promises 48, 49 and 50: echoes of layers, their series, and the steps and impedances behind them."""

import itertools
import random
import unittest
from fractions import Fraction

from coilnets.errors import BadNumber, BadPieces, BadRatio, BadStep, BadSteps
from coilnets.functions import add, compose, constant, degree, divide, subtract
from coilnets.layers import echo_series, layer_echo, pieces_of_steps, steps_of, steps_of_impedances
from coilnets.lines import line_impedance
from helpers import BAD_PIECES, BAD_POSITIVES, BAD_STEPS, LIMIT, ODDITIES, ONE, ZERO, CoilTest, as_fraction, as_ratio
from helpers import quotient_at, some_pieces, some_steps

HALF, ONES = (1, 2), (1, 1)
BAD_MANY = tuple([value for value in ODDITIES if value != 1 or value is True]) + (-1, 13, 100, LIMIT, (1,), "1")


def echo_at(steps, place):
    """The echo at a fraction, worked out by itself from the last step."""
    found = as_fraction(steps[-1])
    for step in reversed(steps[:-1]):
        k = as_fraction(step)
        found = (k + place * found) / (1 + k * place * found)
    return found


def series_by_hand(steps, many):
    """The series by all ways of a wave: it goes down past a step, comes back, and may be sent down again by it."""
    behind = [as_fraction(steps[-1])] + [Fraction(0)] * (many - 1)
    for step in reversed(steps[:-1]):
        k = as_fraction(step)
        once = [Fraction(0)] + behind[:-1]
        behind = [k] + [Fraction(0)] * (many - 1)
        times, share = once, 1 - k * k
        for _ in range(many):
            behind = [one + share * other for one, other in zip(behind, times)]
            times = [sum(times[by] * once[at - by] for by in range(at + 1)) for at in range(many)]
            share = -k * share
    return behind


class Example(CoilTest):

    def test_interface(self):
        self.assertEqual(layer_echo(((1, 2), (1, 3))), ((3, 2), (6, 1)))
        self.assertEqual(echo_series(((1, 2), (1, 3)), 3), ((1, 2), (1, 4), (-1, 24)))
        self.assertEqual(steps_of(((1, 2), (1, 4))), ((1, 2), (1, 3)))
        self.assertIsNone(steps_of(((2, 1), (1, 1))))
        self.assertEqual(steps_of_impedances(((1, 1), (3, 1), (1, 1))), ((1, 2), (-1, 2)))
        self.assertEqual(pieces_of_steps((1, 1), ((1, 2),)), ((1, 1), (3, 1)))


class Echo(CoilTest):

    def test_values(self):
        source = random.Random(481)
        for many in list(range(1, 13)) * 3:
            steps = some_steps(source, many)
            found = layer_echo(steps)
            for place in (Fraction(1, 3), Fraction(-3, 5), Fraction(0)):
                self.assertEqual(quotient_at(found, place), echo_at(steps, place))

    def test_large_steps(self):
        """Steps of any size are let: at the delay 0 the echo is the first one, so it never divides by 0."""
        sizes = ((0, 1), ONES, (-1, 1), (2, 1), (-3, 2), HALF)
        for steps in itertools.product(sizes, repeat=3):
            found = layer_echo(steps)
            self.assertEqual(quotient_at(found, Fraction(0)), as_fraction(steps[0]))
            self.assertEqual(quotient_at(found, Fraction(1, 7)), echo_at(steps, Fraction(1, 7)))

    def test_known(self):
        for steps, wanted in (
                ((HALF,), ((1,), (2,))), (((0, 1),), ZERO), (((5, 1),), ((5,), (1,))), (((0, 1), HALF), ((0, 1), (2,))),
                ((ONES, HALF), ONE), ((ONES, (-1, 1)), ONE), (((-1, 1), (3, 1)), ((-1,), (1,))),
                ((HALF, (0, 1)), ((1,), (2,))), (((0, 1),) * 12, ZERO),
                (((0, 1),) * 11 + (HALF,), ((0,) * 11 + (1,), (2,))),
                (((2, 1), (1, 2)), ((4, 1), (2, 2)))):
            self.assertEqual(layer_echo(steps), wanted, steps)

    def test_greatest_degree(self):
        steps = tuple([(1, k) for k in range(2, 14)])
        self.assertEqual(degree(layer_echo(steps)), 11)
        for steps in (((LIMIT, 1),) * 12, ((1, LIMIT),) * 12, ((-LIMIT, LIMIT - 1),) * 12):
            top, bottom = layer_echo(steps)
            self.assertEqual(Fraction(top[0], bottom[0]), as_fraction(steps[0]))

    def test_errors(self):
        for value, index in BAD_STEPS:
            self.assertEqual(self.raises(BadSteps, layer_echo, value).index, index)


class Series(CoilTest):

    def test_division(self):
        """The coefficients times the bottom make the top."""
        source = random.Random(482)
        for many in list(range(1, 13)) * 2:
            steps = some_steps(source, source.randint(1, 12))
            found = [as_fraction(one) for one in echo_series(steps, many)]
            top, bottom = layer_echo(steps)
            self.assertEqual(len(found), many)
            for at in range(many):
                total = sum(found[at - by] * bottom[by] for by in range(at + 1) if by < len(bottom))
                self.assertEqual(total, top[at] if at < len(top) else 0)

    def test_waves(self):
        source = random.Random(483)
        for _ in range(10):
            steps = some_steps(source, source.randint(1, 5))
            self.assertEqual(list(map(as_fraction, echo_series(steps, 8))), series_by_hand(steps, 8), steps)

    def test_many(self):
        for many in (1, 12):
            self.assertEqual(echo_series((HALF,), many), (HALF,) + ((0, 1),) * (many - 1))
        for value in BAD_MANY:
            self.raises(BadNumber, echo_series, (HALF,), value)
            self.raises(BadNumber, echo_series, ((2, 1), HALF), value)

    def test_steps_of_size_1(self):
        """Only the last step may have the size 1 or more."""
        for step in (ONES, (-1, 1), (2, 1), (-LIMIT, 1), (LIMIT, LIMIT - 1)):
            self.assertEqual(echo_series((step,), 2), (step, (0, 1)))
            self.assertEqual(echo_series((HALF, (0, 1), step), 1), (HALF,))
            for at in (0, 1, 10):
                steps = (HALF,) * at + (step,) + (HALF,) * (11 - at)
                self.raises(BadStep, echo_series, steps, 3)
            self.raises(BadStep, echo_series, (step, step), 1)
        near = (LIMIT - 1, LIMIT)
        self.assertEqual(echo_series((near, HALF), 1), (near,))

    def test_sum_of_squares(self):
        source = random.Random(484)
        for _ in range(20):
            found = echo_series(some_steps(source, source.randint(1, 12)), 12)
            self.assertLessEqual(sum(as_fraction(one) ** 2 for one in found), 1)

    def test_errors(self):
        for value, index in BAD_STEPS:
            self.assertEqual(self.raises(BadSteps, echo_series, value, 3).index, index)
            self.assertEqual(self.raises(BadSteps, echo_series, value, 0).index, index)
        self.assertEqual(self.raises(BadSteps, echo_series, ((3, 1), None), 13).index, 1)


class StepsOf(CoilTest):

    def test_there_and_back(self):
        source = random.Random(491)
        for many in list(range(1, 13)) * 4:
            steps = some_steps(source, many - 1) + (source.choice((HALF, ONES, (-1, 1), (7, 3), (0, 1))),)
            self.assertEqual(steps_of(echo_series(steps, many)), steps)

    def test_back_and_there(self):
        source = random.Random(492)
        many = [0, 0]
        for _ in range(300):
            series = tuple([as_ratio(Fraction(source.randint(-5, 5), source.randint(3, 9)))
                            for _ in range(source.randint(1, 5))])
            steps = steps_of(series)
            if steps is not None:
                self.assertEqual(len(steps), len(series))
                self.assertTrue(all(abs(as_fraction(step)) < 1 for step in steps[:-1]))
                self.assertEqual(echo_series(steps, len(series)), series)
            # All steps are small exactly if the leading determinants are positive.
            small = steps is not None and abs(as_fraction(steps[-1])) < 1
            self.assertEqual(small, all(one > 0 for one in leading_determinants(series)))
            many[small] += 1
        self.assertGreater(min(many), 30)

    def test_known(self):
        for series, wanted in (
                (((5, 1),), ((5, 1),)), ((ONES,), (ONES,)), ((ONES, (0, 1)), None), (((-1, 1), HALF), None),
                (((0, 1),) * 12, ((0, 1),) * 12), (((0, 1), (2, 1)), ((0, 1), (2, 1))),
                (((0, 1), (2, 1), (0, 1)), None), (((0, 1), ONES, (0, 1)), None),
                ((HALF, (3, 4)), (HALF, ONES)), ((HALF, (3, 4), (-3, 8)), None), ((HALF, (3, 2)), (HALF, (2, 1)))):
            self.assertEqual(steps_of(series), wanted, series)

    def test_great_numbers(self):
        series = tuple([(1, LIMIT - at) for at in range(12)])
        steps = steps_of(series)
        self.assertEqual((len(steps), steps[0]), (12, series[0]))
        self.assertIsNone(steps_of(((LIMIT, LIMIT - 1),) + series[1:]))
        near = ((LIMIT - 1, LIMIT), (1, LIMIT))
        gap = 1 - Fraction(LIMIT - 1, LIMIT) ** 2
        self.assertEqual(steps_of(near), (near[0], as_ratio(Fraction(1, LIMIT) / gap)))

    def test_errors(self):
        for value, index in BAD_STEPS:
            self.assertEqual(self.raises(BadSteps, steps_of, value).index, index)
        self.assertEqual(self.raises(BadSteps, steps_of, ((2, 1), None)).index, 1)


def leading_determinants(series):
    """The leading determinants of 1 - T T*, one for each size."""
    many = len(series)
    table = [[as_fraction(series[i - j]) if i >= j else Fraction(0) for j in range(many)] for i in range(many)]
    rows = [[Fraction(i == j) - sum(table[i][k] * table[j][k] for k in range(many)) for j in range(many)]
            for i in range(many)]
    return [determinant([row[:size] for row in rows[:size]]) for size in range(1, many + 1)]


def determinant(rows):
    if not rows:
        return Fraction(1)
    return sum((-1) ** at * rows[0][at] * determinant([row[:at] + row[at + 1:] for row in rows[1:]])
               for at in range(len(rows)))


class Impedances(CoilTest):

    def test_there_and_back(self):
        source = random.Random(501)
        for many in range(2, 13):
            pieces = some_pieces(source, many)
            steps = steps_of_impedances(pieces)
            self.assertEqual(len(steps), many - 1)
            for at, step in enumerate(steps):
                w, following = as_fraction(pieces[at]), as_fraction(pieces[at + 1])
                self.assertEqual(as_fraction(step), (following - w) / (following + w))
            self.assertEqual(pieces_of_steps(pieces[0], steps), pieces)

    def test_back_and_there(self):
        source = random.Random(502)
        for many in range(1, 12):
            steps = some_steps(source, many)
            pieces = pieces_of_steps((5, 3), steps)
            self.assertEqual((len(pieces), pieces[0]), (many + 1, (5, 3)))
            self.assertEqual(steps_of_impedances(pieces), steps)

    def test_line(self):
        """With (1 - z) / (1 + z) for s the echo of a line between two ratios is that of the steps."""
        source = random.Random(503)
        for many in range(2, 13):
            pieces = some_pieces(source, many)
            # The first one is that of the line ahead, the last one that of the line behind.
            one = compose(line_impedance(pieces[1:-1], constant(pieces[-1])), ((1, -1), (1, 1)))
            first = constant(pieces[0])
            self.assertEqual(divide(subtract(one, first), add(one, first)), layer_echo(steps_of_impedances(pieces)))

    def test_great_numbers(self):
        pieces = ((LIMIT, 1), (1, LIMIT), (LIMIT, 1))
        steps = steps_of_impedances(pieces)
        self.assertEqual(steps, ((1 - LIMIT ** 2, 1 + LIMIT ** 2), (LIMIT ** 2 - 1, 1 + LIMIT ** 2)))
        self.assertEqual(pieces_of_steps((LIMIT, 1), ((1 - LIMIT, LIMIT),)), ((LIMIT, 1), (LIMIT, 2 * LIMIT - 1)))

    def test_too_few_pieces(self):
        for value in ((), (ONES,), ((LIMIT, 1),)):
            self.assertIsNone(self.raises(BadPieces, steps_of_impedances, value).index)
        for value, index in BAD_PIECES:
            self.assertEqual(self.raises(BadPieces, steps_of_impedances, value).index, index)
        self.assertEqual(self.raises(BadPieces, steps_of_impedances, (None,)).index, 0)
        self.assertEqual(len(steps_of_impedances((ONES,) * 12)), 11)

    def test_bad_steps(self):
        for value, index in BAD_STEPS:
            self.assertEqual(self.raises(BadSteps, pieces_of_steps, ONES, value).index, index)
        self.assertEqual(len(pieces_of_steps(ONES, (HALF,) * 11)), 12)
        self.assertIsNone(self.raises(BadSteps, pieces_of_steps, ONES, (HALF,) * 12).index)
        self.assertIsNone(self.raises(BadSteps, pieces_of_steps, ONES, ((3, 1),) * 12).index)
        self.assertEqual(self.raises(BadSteps, pieces_of_steps, ONES, (HALF,) * 11 + (None,)).index, 11)
        for step in (ONES, (-1, 1), (5, 2), (-LIMIT, 1)):
            for steps in ((step,), (step, HALF), (HALF, step), (HALF,) * 10 + (step,)):
                self.raises(BadStep, pieces_of_steps, ONES, steps)
            self.assertEqual(self.raises(BadSteps, pieces_of_steps, ONES, (step, None)).index, 1)

    def test_bad_first(self):
        for value in BAD_POSITIVES:
            self.raises(BadRatio, pieces_of_steps, value, (HALF,))
            self.raises(BadRatio, pieces_of_steps, value, None)
            self.raises(BadRatio, pieces_of_steps, value, ((2, 1),))


if __name__ == "__main__":
    unittest.main()
