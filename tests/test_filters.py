"""Promises 41, 42 and 43: ladders of coils and capacitors between resistors."""

import random
import unittest
from fractions import Fraction

from coilnets.chains import ladder_chain
from coilnets.errors import BadLadder, BadPolynomial, NotFilter
from coilnets.filters import echo_polys, filter_ladder, gain_of, turned_filter
from coilnets.functions import add, degree, divide, function, subtract
from coilnets.ladders import far_ladder, ladder_impedance
from coilnets.positive import is_positive
from coilnets.removal import echo_of
from coilnets.roots import is_left
from helpers import BAD_LADDERS, BAD_POLYNOMIALS, LIMIT, ONE, ZERO, CoilTest, gap_of, ladder_at, parts_at
from helpers import quotient_at, some_ladder, some_polynomial

FREE = [(place, kind) for place in "SP" for kind in "LC"]
ONES = (1, 1)
COIL, ACROSS = ("S", "L", ONES), ("P", "C", ONES)

# Two coils or capacitors that make one, a resistor that is closed or cut off at 0 or far out, and both kinds of
# resonance of a coil and a capacitor next to each other.
CUT_OFF = tuple([rungs + ((place, "R", worth),) for place in "SP" for worth in (ONES, (2, 3)) for rungs in (
    (("P", "L", ONES),), (("S", "C", ONES),), (("P", "L", ONES), ("P", "L", (1, 2))), (("S", "C", ONES),) * 2,
    (("P", "L", ONES), ("S", "C", ONES), ("P", "L", ONES)), (("S", "C", ONES), ("P", "L", ONES), ("S", "C", ONES)),
    (("P", "L", ONES), ("P", "C", ONES)), (("S", "L", ONES), ("S", "C", ONES)),
    (("S", "C", ONES), ("S", "L", ONES), ("P", "L", ONES), ("P", "C", ONES)),
    (("P", "C", ONES), ("P", "L", ONES), ("P", "C", (2, 1)), ("P", "L", ONES)))])


def some_filters(seed, many, places="SP", most=6):
    source = random.Random(seed)
    return [some_ladder(source, source.randint(1, most), FREE) + some_ladder(source, 1, [(place, "R") for place in places])
            for _ in range(many)]


def by_turns(source, many, first):
    """Coils in series and capacitors across, by turns, with a resistor in the other place than the last one."""
    rungs = [("S", "L"), ("P", "C")]
    answer = [rungs[(at + first) % 2] + some_ladder(source, 1, FREE)[0][2:] for at in range(many)]
    return tuple(answer) + ((("P" if answer[-1][0] == "S" else "S"), "R") + some_ladder(source, 1, FREE)[0][2:],)


class Example(CoilTest):

    def test_interface(self):
        ladder = filter_ladder((1, 2, 2, 1), (0, 0, 0, 1))
        self.assertEqual(ladder, (("S", "L", (1, 1)), ("P", "C", (2, 1)), ("S", "L", (1, 1)), ("P", "R", (1, 1))))
        self.assertEqual(gain_of(ladder), ((1,), (1, 0, 0, 1)))
        self.assertEqual(echo_polys(ladder), ((1, 2, 2, 1), (0, 0, 0, 1)))
        self.assertEqual(turned_filter((("S", "L", (1, 1)), ("P", "R", (2, 1)))), (("S", "L", (1, 2)), ("P", "R", (1, 2))))
        self.assertIsNone(filter_ladder((1, 1), (1, 1)))


class Gain(CoilTest):

    def test_power(self):
        """The power in the last rung, worked out from the currents at i w."""
        for ladder in some_filters(411, 60) + list(CUT_OFF):
            found = gain_of(ladder)
            chain = ladder_chain(ladder[:-1])
            resistor = Fraction(*ladder[-1][2])
            for w in (Fraction(1, 3), Fraction(5, 4), Fraction(7)):
                a, b, c, d = [parts_at(one, 0, w) for one in chain]
                # With the current 1 through the resistor, this is the voltage of the source.
                whole = [a[k] * resistor + b[k] + c[k] * resistor + d[k] for k in range(2)]
                wanted = 4 * resistor / (whole[0] ** 2 + whole[1] ** 2)
                self.assertEqual(quotient_at(found, w * w), wanted)
                self.assertTrue(0 <= wanted <= 1)

    def test_echo(self):
        """It is 1 less the squared size of the echo on the axis."""
        for ladder in some_filters(412, 60, most=8) + list(CUT_OFF):
            found = gain_of(ladder)
            echo = echo_of(ladder_impedance(ladder))
            for w in (Fraction(2, 5), Fraction(1), Fraction(3)):
                x, y = parts_at(echo, 0, w)
                self.assertEqual(quotient_at(found, w * w), 1 - x * x - y * y)

    def test_known(self):
        for ladder, wanted in (
                ((COIL, ("P", "R", ONES)), ((4,), (4, 1))), ((COIL, ("S", "R", ONES)), ((4,), (4, 1))),
                ((ACROSS, ("S", "R", ONES)), ((4,), (4, 1))), ((("S", "C", ONES), ("P", "R", ONES)), ((0, 4), (1, 4))),
                ((("P", "L", ONES), ("P", "R", ONES)), ((0, 4), (1, 4))),
                ((COIL, ("P", "R", (3, 1))), ((12,), (16, 1))),
                ((COIL, ("S", "C", ONES), ("P", "R", ONES)), ((0, 4), (1, 2, 1)))):
            self.assertEqual(gain_of(ladder), wanted, ladder)

    def test_cut_off(self):
        """At 0 nothing gets through a capacitor in series or past a coil across."""
        for ladder in CUT_OFF:
            at_zero = quotient_at(gain_of(ladder), 0)
            blocked = ("P", "L") in [rung[:2] for rung in ladder] or ("S", "C") in [rung[:2] for rung in ladder]
            self.assertEqual(at_zero == 0, blocked)

    def test_greatest_degree(self):
        source = random.Random(413)
        for first in (0, 1):
            ladder = by_turns(source, 12, first)
            self.assertEqual(degree(gain_of(ladder)), 12)
            self.assertEqual(len(echo_polys(ladder)[0]), 13)
        ladder = tuple([(place, kind, (LIMIT - k, LIMIT - k - 1)) for k, (place, kind) in enumerate(FREE * 3)])
        top, bottom = gain_of(ladder + (("P", "R", (1, LIMIT)),))
        self.assertLessEqual(max(len(top), len(bottom)), 13)


class EchoPolys(CoilTest):

    def test_echo(self):
        for ladder in some_filters(414, 80, most=9) + list(CUT_OFF):
            left, echo = echo_polys(ladder)
            self.assertEqual((echo, left), echo_of(ladder_impedance(ladder)))
            self.assertEqual((echo, left), function(echo, left))
            self.assertTrue(is_left(left))
            if echo != left:
                self.assertEqual(divide(add((left, (1,)), (echo, (1,))), subtract((left, (1,)), (echo, (1,)))),
                                 ladder_impedance(ladder))

    def test_known(self):
        self.assertEqual(echo_polys((COIL, ("S", "L", (2, 1)), ("P", "R", ONES))), ((2, 3), (0, 3)))
        self.assertEqual(echo_polys((("P", "L", (1, LIMIT)), ("P", "R", ONES))), ((LIMIT // 2, 1), (-LIMIT // 2,)))
        self.assertEqual(echo_polys((("P", "L", ONES), ("P", "C", ONES), ("P", "R", ONES))), ((1, 2, 1), (-1, 0, -1)))

    def test_great_numbers(self):
        """The impedance has numbers that no argument may have."""
        ladder = (("S", "L", (1, LIMIT)), ("P", "C", (LIMIT - 1, LIMIT)), ("P", "R", (LIMIT, 1)))
        left, echo = echo_polys(ladder)
        self.assertGreater(max(map(abs, left)), LIMIT)
        place = Fraction(3, 7)
        value = ladder_at(ladder, place)
        self.assertEqual(quotient_at((echo, left), place), (value - 1) / (value + 1))


class NotFilters(CoilTest):

    def test_errors(self):
        for value, index in BAD_LADDERS:
            for call in (gain_of, echo_polys, turned_filter):
                self.assertEqual(self.raises(BadLadder, call, value).index, index)

    def test_not_filters(self):
        resistor = ("P", "R", ONES)
        for ladder in ((resistor,), (("S", "R", (2, 1)),), (COIL,), (COIL, ACROSS), (resistor, COIL),
                       (resistor, resistor), (COIL, resistor, resistor), (resistor, COIL, resistor),
                       (COIL, ("S", "R", ONES), ACROSS, resistor), (COIL,) * 13, (resistor,) * 13,
                       (COIL, resistor, ACROSS)):
            for call in (gain_of, echo_polys, turned_filter):
                self.raises(NotFilter, call, ladder)
        self.assertEqual(self.raises(BadLadder, gain_of, (resistor, None)).index, 1)
        self.assertEqual(len(turned_filter((COIL,) * 12 + (resistor,))), 13)


class Turned(CoilTest):

    def test_gain(self):
        for ladder in some_filters(421, 80, places="P", most=8):
            self.assertEqual(gain_of(turned_filter(ladder)), gain_of(ladder))
            self.assertEqual(turned_filter(turned_filter(ladder)), ladder)

    def test_rungs(self):
        """Impedances are divided by that of the resistor; the places stay, in reverse order."""
        for ladder in some_filters(422, 40, places="P"):
            found = turned_filter(ladder)
            size = Fraction(*ladder[-1][2])
            self.assertEqual(found[-1], ("P", "R", (size.denominator, size.numerator)))
            for one, other in zip(found, ladder[-2::-1]):
                self.assertEqual(one[:2], other[:2])
                self.assertEqual(quotient_at(ladder_impedance((one,)), Fraction(2)) * size,
                                 quotient_at(ladder_impedance((other,)), Fraction(2)))

    def test_known(self):
        ladder = (("S", "L", (3, 1)), ("P", "L", (2, 5)), ("S", "C", (1, 2)), ("P", "C", (7, 1)), ("P", "R", (3, 2)))
        self.assertEqual(turned_filter(ladder), (("P", "C", (21, 2)), ("S", "C", (3, 4)), ("P", "L", (4, 15)),
                                                 ("S", "L", (2, 1)), ("P", "R", (2, 3))))

    def test_last_rung_in_series(self):
        for ladder in some_filters(423, 20, places="S"):
            self.raises(NotFilter, turned_filter, ladder)
            self.assertEqual(gain_of(ladder), gain_of(ladder[:-1] + (("P",) + ladder[-1][1:],)))


class FilterLadder(CoilTest):

    def test_there_and_back(self):
        source = random.Random(431)
        for many in list(range(1, 13)) * 3:
            ladder = by_turns(source, many, source.randint(0, 1))
            left, echo = echo_polys(ladder)
            self.assertEqual(filter_ladder(left, echo), ladder)
            for number in (3, -1, -2):
                more, less = [tuple([number * one for one in many]) for many in (left, echo)]
                self.assertEqual(filter_ladder(more, less), ladder)

    def test_first_rungs(self):
        """The ladder begins as that of coils and capacitors would, with a coil or a capacitor."""
        self.assertEqual(filter_ladder((2, 1), (0, 1)), (COIL, ("P", "R", ONES)))
        self.assertEqual(filter_ladder((2, 1), (0, -1)), (ACROSS, ("S", "R", ONES)))
        self.assertEqual(filter_ladder((5, 1), (-1, 1)), (("S", "L", (1, 3)), ("P", "R", (2, 3))))
        self.assertEqual(filter_ladder((5, 1), (1, -1)), (("P", "C", (1, 3)), ("S", "R", (3, 2))))
        self.assertEqual(filter_ladder((1, 2, 2, 1), (0, 0, 0, -1)),
                         (ACROSS, ("S", "L", (2, 1)), ACROSS, ("S", "R", ONES)))
        self.assertEqual(far_ladder(((1, 0, 2), (0, 2)))[0][:2], ("S", "L"))

    def test_other_ladders(self):
        """Of others than those by turns the polynomials make None, or the ladder by turns with the same echo."""
        found = 0
        for ladder in some_filters(432, 60, most=4) + list(CUT_OFF):
            other = filter_ladder(*echo_polys(ladder))
            if other is not None:
                self.assertEqual(ladder_impedance(other), ladder_impedance(ladder))
                self.assertEqual({rung[:2] for rung in other[:-1]} | {("S", "L"), ("P", "C")}, {("S", "L"), ("P", "C")})
                found += 1
        self.assertGreater(found, 10)

    def test_some_polynomials(self):
        source = random.Random(433)
        many = [0, 0]
        for _ in range(4000):
            left, echo = some_polynomial(source, 2, 3), some_polynomial(source, 2, 3)
            gap = gap_of(left, echo)
            fits = left != () and is_left(left) and len(left) > 1 and len(gap) == 1 and gap[0] > 0
            ladder = filter_ladder(left, echo)
            self.assertEqual(ladder is not None, fits, (left, echo))
            if ladder is not None:
                one = divide(add((left, (1,)), (echo, (1,))), subtract((left, (1,)), (echo, (1,))))
                self.assertEqual(ladder_impedance(ladder), one)
                self.assertTrue(is_positive(one))
                self.assertEqual(len(ladder), len(left))
            many[fits] += 1
        self.assertGreater(min(many), 20)

    def test_none(self):
        for left, echo in (
                ((), ()), ((), (1,)), ((1,), ()), ((2,), (1,)), ((1, 1), ()), ((1, 1), (1, 1)), ((1, 1), (-1, -1)),
                ((2, 1), (0, 2)), ((1, 1), (0, 2)), ((1, 1), (2, 1)), ((2, 1), (3, 1)), ((-2, 1), (0, 1)),
                ((2, -1), (0, 1)), ((2, 0, 1), (0, 0, 1)), ((0, 1), (0, 1)), ((0, 1, 1), (0, 0, 1)),
                ((1, 2, 1), (0, 2, 1)), ((1, 2, 2, 1), (0, 0, 1)), ((1, 2, 2, 1), (0, 0, 0, 2)), ((1, 2, 2, 1), ()),
                ((1, 2, 3, 1), (0, 0, 0, 1)), ((1, -2, 2, -1), (0, 0, 0, 1)), ((-1, 0, 1), (0, 0, 1))):
            self.assertIsNone(filter_ladder(left, echo), (left, echo))
        self.assertIsNotNone(filter_ladder((-2, -1), (0, 1)))

    def test_greatest_degree(self):
        ladder = tuple([COIL if at % 2 == 0 else ACROSS for at in range(12)]) + (("S", "R", ONES),)
        left, echo = echo_polys(ladder)
        self.assertEqual(len(left), 13)
        self.assertEqual(filter_ladder(left, echo), ladder)
        self.assertIsNone(filter_ladder(left, echo[:-1] + (echo[-1] + 1,)))
        self.raises(BadPolynomial, filter_ladder, left + (1,), echo)
        self.raises(BadPolynomial, filter_ladder, left, echo + (1,))

    def test_errors(self):
        for value in BAD_POLYNOMIALS:
            self.raises(BadPolynomial, filter_ladder, value, (1, 1))
            self.raises(BadPolynomial, filter_ladder, (1, 1), value)
            self.raises(BadPolynomial, filter_ladder, (), value)
        self.assertIsNone(filter_ladder(ZERO[0], ONE[0]))


if __name__ == "__main__":
    unittest.main()
