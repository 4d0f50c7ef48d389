"""Promises 29 to 32: resistors with capacitors or with coils, their ladders, mirrored functions."""

import random
import unittest
from fractions import Fraction

from coilnets.errors import BadFunction, BadKind, CoilError, NoFunction, NotSimple, TooLarge
from coilnets.functions import compose, degree, divide, multiply, reciprocal, subtract, value_at
from coilnets.ladders import ladder_impedance
from coilnets.lossless import is_lossless
from coilnets.roots import count_roots
from coilnets.simple import as_capacitors, as_coils, is_rc, is_rl, mirrored, order_of, rc_far, rc_near, rl_far, rl_near
from helpers import BAD_FUNCTIONS, LIMIT, LOSSLESS, LOSSLESS_12, NEGATIVES, NOT_LOSSLESS, ODDITIES, ONE, S, TOUCHING
from helpers import ZERO, CoilTest, as_fraction, quotient_at, some_functions, some_impedances, some_ladder, sum_of

INVERSE = ((1,), (0, 1))
RC_12 = sum_of([((k + 1,), (k, 1)) for k in range(12)])
RL_12 = sum_of([((0, k), (k, 1)) for k in range(1, 12)] + [S])

# Functions of resistors and capacitors, but not of resistors alone; with 1 / s in the place of s those of resistors
# and coils.
RC = (
    INVERSE, ((7,), (0, 3)), ((1,), (1, 1)), ((2, 1), (1, 1)), ((1, 1), (0, 1)), ((3, 4, 1), (0, 2, 1)),
    ((1,), (LIMIT, 1)), ((3, 1), (5, 6, 1)), ((1, 1), (0, 2, 1)), ((2, 4, 1), (1, 3, 1)),
)
RATIOS = (ONE, ((3,), (7,)), ((LIMIT,), (1,)))
NEITHER = NEGATIVES + (
    TOUCHING, LOSSLESS_12, ((1, 0, 1), (0, 1)), ((0, 1), (1, 0, 1)), ((1, 1, 1), (0, 1)), ((1, 2), (1, 1, 1)),
    ((1, 2, 2), (1, 1)), ((2, 2, 1), (1, 1)), ((-1, 0, 1), (1,)), ((1, 1), (4, 4, 1)), ((1,), (1, 2, 1)),
    ((1, 1), (2, 3, 0, 1)), ((1, 1), (6, -5, 1)), ((2, -1), (1, 1)), ((1, 1, 1), (2, 3, 1)),
)
LADDERS = ((rc_far, is_rc, [("S", "R"), ("P", "C")]), (rc_near, is_rc, [("S", "C"), ("P", "R")]),
           (rl_far, is_rl, [("S", "L"), ("P", "R")]), (rl_near, is_rl, [("S", "R"), ("P", "L")]))


def or_none(call, *arguments):
    """What a call returns, None if it raises an error for an answer."""
    try:
        return call(*arguments)
    except CoilError:
        return None


class Example(CoilTest):

    def test_interface(self):
        one = ((3, 4, 1), (0, 2, 1))
        self.assertIs(is_rc(one), True)
        self.assertIs(is_rl(one), False)
        self.assertEqual(rc_far(one), (("S", "R", (1, 1)), ("P", "C", (1, 2)), ("S", "R", (4, 1)), ("P", "C", (1, 6))))
        self.assertEqual(rc_near(((2, 1), (1, 1))), (("P", "R", (2, 1)), ("S", "C", (1, 4)), ("P", "R", (2, 1))))
        self.assertEqual(rl_far(((1, 1), (2, 1))), (("P", "R", (1, 1)), ("S", "L", (1, 1)), ("P", "R", (1, 1))))
        self.assertEqual(rl_near(((0, 1), (1, 1))), (("P", "L", (1, 1)), ("S", "R", (1, 1))))
        self.assertEqual(as_coils(((2, 1), (1, 1))), ((0, 2, 0, 1), (1, 0, 1)))
        self.assertEqual(order_of(one), 2)
        self.assertEqual(mirrored(((2, 1), (1, 1)), "RC"), ((1, 1), (1, 2)))


class Kinds(CoilTest):

    def kinds(self, one):
        """Tells the two kinds, which are looked at by lossless functions, too, where these are not too large."""
        found = (is_rc(one), is_rl(one))
        for kind, call in zip(found, (as_coils, as_capacitors)):
            changed = or_none(call, one)
            if changed is not None:
                self.assertEqual(is_lossless(changed), kind, one)
        return found

    def test_known(self):
        for one in RC:
            self.assertEqual(self.kinds(one), (True, False), one)
            self.assertEqual(self.kinds(compose(one, INVERSE)), (False, True), one)
            self.assertEqual(self.kinds(reciprocal(one)), (False, True), one)
            self.assertEqual(self.kinds(subtract(ZERO, one)), (False, False), one)
        for one in RATIOS + (ZERO,):
            self.assertEqual(self.kinds(one), (True, True), one)
        for one in NEITHER:
            self.assertEqual(self.kinds(one), (False, False), one)

    def test_greatest_degree(self):
        self.assertEqual((degree(RC_12), degree(RL_12)), (12, 12))
        self.assertEqual((is_rc(RC_12), is_rl(RC_12)), (True, False))
        self.assertEqual((is_rc(RL_12), is_rl(RL_12)), (False, True))
        self.assertFalse(is_rc(subtract(RC_12, ((13,), (11, 1)))))
        self.assertFalse(is_rl(subtract(RL_12, ((0, 12), (11, 1)))))

    def test_ends(self):
        """A value beyond all bounds that is too little, poles there and at 0."""
        for less, wanted in ((((1,), (1,)), True), (((11,), (10,)), False), (((9,), (10,)), True)):
            self.assertIs(is_rc(subtract(((2, 1), (1, 1)), less)), wanted)
        for one, wanted in ((((1, 1), (0, 1)), True), (((1, 1), (0, 0, 1)), False), (((-1, 1), (0, 1)), False),
                            (((0, 1), (1,)), False), (((1, 1), (1,)), False)):
            self.assertIs(is_rc(one), wanted)
            self.assertIs(is_rl(compose(one, INVERSE)), wanted)

    def test_some_functions(self):
        many = [0, 0]
        for one in some_functions(291, 600, 2, 3) + some_functions(292, 200, 4, 2):
            for kind in self.kinds(one):
                many[kind] += 1
        self.assertGreater(min(many), 100)

    def test_networks(self):
        for one in some_impedances(293, 50, kinds="RC"):
            self.assertTrue(self.kinds(one)[0])
        for one in some_impedances(294, 50, kinds="RL"):
            self.assertTrue(self.kinds(one)[1])

    def test_rise_and_fall(self):
        for number, kinds in ((295, "RC"), (296, "RL")):
            for one in some_impedances(number, 30, kinds=kinds):
                values = [quotient_at(one, Fraction(k)) for k in range(1, 9)]
                weighed = [value * k if kinds == "RC" else value / k for k, value in enumerate(values, start=1)]
                falls, rises = (values, weighed) if kinds == "RC" else (weighed, values)
                self.assertEqual(falls, sorted(falls, reverse=True))
                self.assertEqual(rises, sorted(rises))

    def test_errors(self):
        for value in BAD_FUNCTIONS:
            for call in (is_rc, is_rl, as_coils, as_capacitors, order_of, rc_far, rc_near, rl_far, rl_near):
                self.raises(BadFunction, call, value)


class Changed(CoilTest):

    def test_values(self):
        for one in some_functions(297, 150, 4, 6):
            square = compose(one, ((0, 0, 1), (1,)))
            self.assertEqual(as_coils(one), multiply(S, square))
            self.assertEqual(as_capacitors(one), divide(square, S))
        self.assertEqual(as_coils(ZERO), ZERO)
        self.assertEqual(as_capacitors(ZERO), ZERO)

    def test_degrees(self):
        """Of degree 12 an answer is let, of degree 13 it is not."""
        for one in (((1,) * 6, (2,) * 6 + (3,)), ((1,) * 7, (0,) + (1,) * 5 + (2,)), ((1,) * 7, (0, 1))):
            self.assertEqual(degree(as_coils(one)), 12)
        for one in (((1,) * 7, (2,)), ((1,) * 7, (2,) * 6 + (3,)), ((3,), (0,) + (1,) * 7)):
            self.assertEqual(self.raises(TooLarge, as_coils, one).most, 12)
        for one in (((2,) * 6 + (3,), (1,) * 6), ((0,) + (1,) * 5 + (2,), (1,) * 7), ((1,) * 7, (0, 1))):
            self.assertEqual(degree(as_capacitors(one)), 12)
        for one in (((2,), (1,) * 7), ((2,) * 6 + (3,), (1,) * 7), ((0,) + (1,) * 7, (3,))):
            self.assertEqual(self.raises(TooLarge, as_capacitors, one).most, 12)
        for call in (as_coils, as_capacitors):
            self.raises(TooLarge, call, RC_12)


class Ladders(CoilTest):

    def ladders(self, one):
        """Looks at the four ladders of a function, and tells how many there are."""
        many = 0
        for call, kind, rungs in LADDERS:
            ladder = call(one)
            self.assertEqual(ladder is not None, one != ZERO and kind(one), one)
            if ladder is not None:
                self.assertTrue(all(rung[:2] in rungs for rung in ladder), ladder)
                self.assertTrue(all(rung[0] != other[0] for rung, other in zip(ladder, ladder[1:])), ladder)
                self.assertEqual(ladder_impedance(ladder), one)
                many += 1
        return many

    def test_known(self):
        for one in RC:
            self.assertEqual(self.ladders(one), 2)
            self.assertEqual(self.ladders(compose(one, INVERSE)), 2)
        for one in RATIOS:
            self.assertEqual(self.ladders(one), 4)
        for one in NEITHER + (ZERO,):
            self.assertEqual(self.ladders(one), 0)

    def test_networks(self):
        for one in some_impedances(301, 50, kinds="RC") + some_impedances(302, 50, kinds="RL"):
            self.assertGreaterEqual(self.ladders(one), 2)

    def test_ladders_come_back(self):
        source = random.Random(303)
        for call, _, rungs in LADDERS:
            for _ in range(30):
                turns = rungs if source.random() < 0.5 else rungs[::-1]
                ladder = tuple([turns[at % 2] + some_ladder(source, 1, rungs)[0][2:]
                                for at in range(source.randint(1, 13))])
                self.assertEqual(call(ladder_impedance(ladder)), ladder)

    def test_one_rung(self):
        half = ((1,), (2,))
        self.assertEqual(rc_far(half), (("S", "R", (1, 2)),))
        self.assertEqual(rc_near(half), (("P", "R", (1, 2)),))
        self.assertEqual(rl_far(half), (("P", "R", (1, 2)),))
        self.assertEqual(rl_near(half), (("S", "R", (1, 2)),))
        self.assertEqual(rc_far(((3,), (0, 2))), (("P", "C", (2, 3)),))
        self.assertEqual(rc_near(((3,), (0, 2))), (("S", "C", (2, 3)),))
        self.assertEqual(rl_far(((0, 3), (2,))), (("S", "L", (3, 2)),))
        self.assertEqual(rl_near(((0, 3), (2,))), (("P", "L", (3, 2)),))

    def test_more_rungs_than_a_ladder_may_have(self):
        """Each function of the kind has its rungs, also one of so great a degree that they are more than 13."""
        for one, calls in ((RC_12, (rc_far, rc_near)), (RL_12, (rl_far, rl_near))):
            for call in calls:
                rungs = call(one)
                self.assertGreater(len(rungs), 13)
                self.assertTrue(all(rung[0] != other[0] for rung, other in zip(rungs, rungs[1:])))
                self.assertEqual(impedance_at(rungs, Fraction(3, 2)), as_fraction(value_at(one, (3, 2))))


def impedance_at(rungs, place):
    found = None
    for position, kind, worth in reversed(rungs):
        own = as_fraction(worth) * (place if kind == "L" else 1)
        own = 1 / (as_fraction(worth) * place) if kind == "C" else own
        behind = own if found is None else own + found if position == "S" else own * found / (own + found)
        found = behind
    return found


class Order(CoilTest):

    def test_known(self):
        for one, wanted in ((ZERO, 0), (ONE, 0), (S, 0), (INVERSE, 1), (((1, 1), (1,)), 0), (((0, 1), (1, 1)), 1),
                            (((3, 4, 1), (0, 2, 1)), 2), (((2, 1), (1, 1)), 1), (RC_12, 12), (RL_12, 11)):
            self.assertEqual(order_of(one), wanted, one)

    def test_poles(self):
        for one in some_impedances(311, 40, kinds="RC") + some_impedances(312, 40, kinds="RL"):
            self.assertEqual(order_of(one), count_roots(one[1], None, (0, 1)))

    def test_not_simple(self):
        for one in NEITHER:
            self.raises(NotSimple, order_of, one)


class Mirrored(CoilTest):

    def test_known(self):
        for one, kind, wanted in (
                (INVERSE, "RC", INVERSE), (S, "RL", S), (S, "LC", INVERSE), (ONE, "RC", ONE),
                (((2,), (3,)), "RL", ((3,), (2,))),
                (((1, 1), (0, 1)), "RC", ((1,), (1, 1))), (((1, 2), (1, 1)), "RL", ((1, 1), (2, 1))),
                (((2, 0, 1), (0, 1)), "LC", ((0, 1), (2, 0, 1)))):
            self.assertEqual(mirrored(one, kind), wanted, (one, kind))

    def test_same_kind(self):
        for kind, tells, found in (
                ("RC", is_rc, list(RC) + [RC_12] + some_impedances(321, 40, kinds="RC")),
                ("RL", is_rl, [compose(one, INVERSE) for one in RC] + [RL_12] + some_impedances(322, 40, kinds="RL")),
                ("LC", is_lossless, list(LOSSLESS) + some_impedances(323, 40, kinds="LC"))):
            for one in found:
                other = mirrored(one, kind)
                self.assertEqual(other, reciprocal(one if kind == "LC" else compose(one, INVERSE)))
                self.assertTrue(tells(other))
                self.assertEqual(mirrored(other, kind), one)

    def test_not_simple(self):
        for one in NEITHER:
            self.raises(NotSimple, mirrored, one, "RC")
            self.raises(NotSimple, mirrored, one, "RL")
        for one in NOT_LOSSLESS + RATIOS:
            self.raises(NotSimple, mirrored, one, "LC")
        for one in RC:
            self.raises(NotSimple, mirrored, one, "RL")
            self.raises(NotSimple, mirrored, compose(one, INVERSE), "RC")
        for one in LOSSLESS_12, ((1, 0, 1), (0, 1)):
            self.raises(NotSimple, mirrored, one, "RC")
            self.raises(NotSimple, mirrored, one, "RL")

    def test_zero(self):
        for kind in ("RC", "RL", "LC"):
            self.raises(NoFunction, mirrored, ZERO, kind)

    def test_errors(self):
        for value in BAD_FUNCTIONS:
            self.raises(BadFunction, mirrored, value, "RC")
            self.raises(BadFunction, mirrored, value, "XY")
        for value in ODDITIES + ("rc", "R", "RLC", "CR", "LR", "CL", "RC ", ("RC",), ["RC"], {"RC": 1}):
            self.raises(BadKind, mirrored, ONE, value)
            self.raises(BadKind, mirrored, ZERO, value)
            self.raises(BadKind, mirrored, NEGATIVES[0], value)


if __name__ == "__main__":
    unittest.main()
