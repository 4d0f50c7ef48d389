"""Promises 22, 25 and 26: lossless functions, their reactances and slopes, zeros and poles that take turns."""

import random
import unittest
from fractions import Fraction

from coilnets.errors import BadFunction, BadRatio, NotLossless
from coilnets.functions import add, compose, degree, reciprocal, subtract
from coilnets.lossless import is_lossless, reactance_at, slope_at, takes_turns, turns_between
from coilnets.positive import is_positive
from helpers import BAD_FUNCTIONS, BAD_POSITIVES, LIMIT, LOSSLESS, LOSSLESS_12, NOT_LOSSLESS, ONE, POSITIVES, S, ZERO
from helpers import CoilTest, as_ratio, lossless_of, parts_at, some_functions, some_impedances, tank

MINUS_S = ((0, -1), (1,))


class Example(CoilTest):

    def test_interface(self):
        one = ((9, 0, 10, 0, 1), (0, 4, 0, 1))
        self.assertIs(is_lossless(one), True)
        self.assertIs(takes_turns(((1, 1), (1,))), False)
        self.assertEqual(reactance_at(one, (1, 1)), (0, 1))
        self.assertEqual(slope_at(one, (1, 1)), (16, 3))
        self.assertEqual(turns_between(one, (1, 2), (5, 1)), (2, 1))


class Lossless(CoilTest):

    def test_lossless(self):
        for one in LOSSLESS + (ZERO,):
            self.assertIs(is_lossless(one), True, one)
            self.assertIs(takes_turns(one), True, one)

    def test_not_lossless(self):
        for one in NOT_LOSSLESS:
            self.assertIs(is_lossless(one), False, one)
            self.assertIs(takes_turns(one), False, one)

    def test_the_two_agree(self):
        """On odd functions, many of which are not lossless, and on others."""
        source = random.Random(221)
        many = [0, 0]
        for _ in range(400):
            squares = [source.randint(-1, 6) for _ in range(source.randint(0, 4))]
            cut = source.randint(0, len(squares))
            one = lossless_of(squares[:cut], squares[cut:], source.choice((-2, 1, 1, 1)), source.choice((1, -1)))
            self.assertEqual(is_lossless(one), takes_turns(one), one)
            many[is_lossless(one)] += 1
        self.assertGreater(min(many), 80)
        for one in some_functions(222, 200, 3, 2) + list(POSITIVES):
            odd = compose(one, MINUS_S) == subtract(ZERO, one)
            self.assertEqual(is_lossless(one), odd and is_positive(one), one)
            self.assertEqual(takes_turns(one), odd and is_positive(one), one)

    def test_networks(self):
        for one in some_impedances(223, 60, kinds="LC"):
            self.assertTrue(is_lossless(one) and takes_turns(one))
            less = subtract(ZERO, one)
            self.assertFalse(is_lossless(less) or takes_turns(less))

    def test_what_keeps_it(self):
        found = some_impedances(224, 30, 3, 3, kinds="LC")
        for one, other in zip(found, found[1:]):
            for made in (add(one, other), reciprocal(one), compose(one, other)):
                self.assertTrue(is_lossless(made) and takes_turns(made))

    def test_errors(self):
        for value in BAD_FUNCTIONS:
            self.raises(BadFunction, is_lossless, value)
            self.raises(BadFunction, takes_turns, value)


class Reactance(CoilTest):

    def test_values(self):
        for one in LOSSLESS + tuple(some_impedances(251, 40, kinds="LC")):
            for w in (Fraction(1, 3), Fraction(1), Fraction(3, 2), Fraction(2), Fraction(7)):
                there = parts_at(one, Fraction(0), w)
                found, slope = reactance_at(one, as_ratio(w)), slope_at(one, as_ratio(w))
                if there is None:
                    self.assertIsNone(found)
                    self.assertIsNone(slope)
                    continue
                self.assertEqual(found, as_ratio(there[1]))
                self.assertEqual(there[0], 0)
                self.assertGreaterEqual(Fraction(*slope), abs(there[1] / w))

    def test_slopes(self):
        """Of a sum of poles, by the slope of each of them."""
        source = random.Random(252)
        for _ in range(60):
            terms = [(source.randint(1, 9), square) for square in source.sample((0, 1, 2, 3, 4), source.randint(1, 4))]
            one, far = ZERO, source.randint(0, 4)
            for limit, square in terms:
                one = add(one, tank(limit, square))
            one = add(one, ((0, far), (1,)) if far else ZERO)
            w = Fraction(source.randint(1, 8), source.randint(1, 4))
            if any(w * w == square for _, square in terms):
                self.assertIsNone(slope_at(one, as_ratio(w)))
                continue
            values = [limit * w / (square - w * w) for limit, square in terms]
            slopes = [limit * (square + w * w) / (square - w * w) ** 2 for limit, square in terms]
            self.assertEqual(reactance_at(one, as_ratio(w)), as_ratio(far * w + sum(values)))
            self.assertEqual(slope_at(one, as_ratio(w)), as_ratio(far + sum(slopes)))

    def test_zeros_and_poles(self):
        one = lossless_of((4,), (1, 9), 2)
        for w, reactance, slope in (((2, 1), (0, 1), (16, 15)), ((1, 1), None, None), ((3, 1), None, None)):
            self.assertEqual(reactance_at(one, w), reactance)
            self.assertEqual(slope_at(one, w), slope)
        for ratio in ((1, LIMIT), (5, 7), (LIMIT, 1)):
            self.assertEqual(reactance_at(ZERO, ratio), (0, 1))
            self.assertEqual(slope_at(ZERO, ratio), (0, 1))
            self.assertEqual(reactance_at(S, ratio), ratio)
            self.assertEqual(slope_at(S, ratio), (1, 1))

    def test_errors(self):
        for call in (reactance_at, slope_at):
            for value in BAD_FUNCTIONS:
                self.raises(BadFunction, call, value, (1, 1))
                self.raises(BadFunction, call, value, (0, 1))
            for value in BAD_POSITIVES:
                self.raises(BadRatio, call, S, value)
                self.raises(BadRatio, call, ONE, value)
            for one in NOT_LOSSLESS:
                self.raises(NotLossless, call, one, (1, 1))


class Turns(CoilTest):

    def test_known(self):
        """Zeros at 1, 3, poles at 2, 5, one of each at 0 or beyond all bounds, which never count."""
        for one in (lossless_of((1, 9), (4, 25), 3, -1), reciprocal(lossless_of((4, 25), (1, 9), 3))):
            for low, high, wanted in (
                    ((1, 2), (6, 1), (2, 2)), ((1, 1), (6, 1), (1, 2)), ((1, 2), (1, 1), (1, 0)),
                    ((1, 1), (2, 1), (0, 1)), ((2, 1), (3, 1), (1, 0)), ((2, 1), (5, 1), (1, 1)),
                    ((5, 1), (LIMIT, 1), (0, 0)),
                    ((1, LIMIT), (1, 2), (0, 0)), ((1, 1), (1, 1), (0, 0)), ((2, 1), (2, 1), (0, 0)),
                    ((6, 1), (1, 2), (0, 0)), ((3, 1), (1, 1), (0, 0)), ((5, 2), (7, 2), (1, 0)),
                    ((99, 100), (101, 100), (1, 0)), ((1, LIMIT), (LIMIT, 1), (2, 2))):
                self.assertEqual(turns_between(one, low, high), wanted, (low, high))
                self.assertEqual(turns_between(reciprocal(one), low, high), wanted[::-1], (low, high))

    def test_places_that_are_no_ratios(self):
        one = lossless_of((2, 5), (3, 7), 1, -1)
        self.assertEqual(turns_between(one, (1, 1), (3, 1)), (2, 2))
        for below, above, wanted in ((141421356, 141421357, (1, 0)), (173205080, 173205081, (0, 1)),
                                     (141421357, 173205080, (0, 0))):
            ends = [as_ratio(Fraction(number, 10 ** 8)) for number in (below, above)]
            self.assertEqual(turns_between(one, *ends), wanted)
        self.assertEqual(turns_between(((1, 0, 3, 0, 1), (0, 3, 0, 2)), (1, 2), (2, 1)), (2, 1))

    def test_ends_do_not_count(self):
        for one in (S, ((1,), (0, 1))):
            self.assertEqual(turns_between(one, (1, LIMIT), (LIMIT, 1)), (0, 0))

    def test_they_differ_by_one(self):
        source = random.Random(261)
        for one in LOSSLESS + tuple(some_impedances(262, 40, kinds="LC")):
            for _ in range(5):
                low, high = sorted(Fraction(source.randint(1, 20), source.randint(1, 6)) for _ in range(2))
                zeros, poles = turns_between(one, as_ratio(low), as_ratio(high))
                self.assertLessEqual(abs(zeros - poles), 1)
        self.assertEqual(turns_between(LOSSLESS_12, (1, 100), (100, 1)), (6, 5))
        self.assertEqual(degree(LOSSLESS_12), 12)

    def test_errors(self):
        for value in BAD_FUNCTIONS:
            self.raises(BadFunction, turns_between, value, (1, 1), (2, 1))
            self.raises(BadFunction, turns_between, value, None, None)
        for value in BAD_POSITIVES:
            self.raises(BadRatio, turns_between, S, value, (2, 1))
            self.raises(BadRatio, turns_between, S, (1, 1), value)
            self.raises(BadRatio, turns_between, ONE, value, (2, 1))
            self.raises(BadRatio, turns_between, ZERO, (1, 1), value)
        for one in NOT_LOSSLESS + (ZERO,):
            self.raises(NotLossless, turns_between, one, (1, 1), (2, 1))
            self.raises(NotLossless, turns_between, one, (2, 1), (1, 1))


if __name__ == "__main__":
    unittest.main()
