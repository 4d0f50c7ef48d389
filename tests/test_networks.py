"""Promises 9 and 14: networks and their parts, networks made from others, stars and triangles."""

import random
import unittest
from fractions import Fraction
from itertools import product

from coilnets.errors import BadFunction, BadNetwork, BadNumber, BadRatio, NoFunction, TooLarge
from coilnets.functions import add, compose, constant, divide, multiply
from coilnets.networks import part_impedance, scaled, star_of, triangle_of, turned
from coilnets.solving import impedance
from helpers import BAD_FUNCTIONS, BAD_NETWORKS, BAD_POSITIVES, LIMIT, ONE, R1, S, ZERO, CoilTest
from helpers import as_ratio, power, quotient_at, some_functions, some_network

Z = ((1, 2), (3, 0, 1))
ALL_KINDS = (3, (("R", 0, 1, (2, 3)), ("L", 1, 2, (5, 4)), ("C", 2, 0, (7, 6)), ("Z", 0, 2, Z)))


class Example(CoilTest):

    def test_interface(self):
        network = (2, (("L", 0, 1, (2, 3)), ("C", 0, 1, (1, 4))))
        self.assertEqual(part_impedance(network, 1), ((4,), (0, 1)))
        self.assertEqual(scaled(network, (2, 1), (4, 1)), (2, (("L", 0, 1, (1, 3)), ("C", 0, 1, (1, 32)))))
        self.assertEqual(turned(network), (2, (("C", 0, 1, (3, 2)), ("L", 0, 1, (4, 1)))))
        self.assertEqual(triangle_of(ONE, ONE, ONE), (((3,), (1,)),) * 3)
        self.assertEqual(star_of(ONE, ONE, ONE), (((1,), (3,)),) * 3)


class Parts(CoilTest):

    def test_part_impedance(self):
        wanted = (((2,), (3,)), ((0, 5), (4,)), ((6,), (0, 7)), Z)
        self.assertEqual(tuple([part_impedance(ALL_KINDS, at) for at in range(4)]), wanted)

    def test_greatest_values(self):
        for kind, wanted in (("R", ((LIMIT,), (LIMIT - 1,))), ("L", ((0, LIMIT), (LIMIT - 1,))),
                             ("C", ((LIMIT - 1,), (0, LIMIT)))):
            self.assertEqual(part_impedance((2, ((kind, 1, 0, (LIMIT, LIMIT - 1)),)), 0), wanted)
        for one in (power(12), ((1,), power(12)[0]), ((-LIMIT,), (1,)), ((-1,), (0, 1))):
            self.assertEqual(part_impedance((2, (("Z", 0, 1, one),)), 0), one)

    def test_greatest_networks(self):
        network = (8, tuple([("R", at % 8, (at + 1) % 8, (at + 1, 1)) for at in range(14)]))
        self.assertEqual(part_impedance(network, 13), ((14,), (1,)))
        self.raises(BadNumber, part_impedance, network, 14)
        self.raises(BadNumber, part_impedance, (1, ()), 0)
        self.assertEqual(turned((1, ())), (1, ()))

    def test_bad_networks(self):
        for value, index in BAD_NETWORKS:
            for call, more in ((part_impedance, (0,)), (part_impedance, (None,)), (turned, ()),
                               (scaled, ((1, 1), (1, 1))), (scaled, (None, None))):
                self.assertEqual(self.raises(BadNetwork, call, value, *more).index, index, value)

    def test_bad_numbers(self):
        for value in (None, True, False, -1, 4, 10 ** 70, "0", "", (), (0,), [], [0], {}, {0: 0}):
            self.raises(BadNumber, part_impedance, ALL_KINDS, value)


class Scaled(CoilTest):

    def test_parts(self):
        wanted = (3, (("R", 0, 1, (2, 1)), ("L", 1, 2, (3, 2)), ("C", 2, 0, (7, 45)),
                      ("Z", 0, 2, ((75, 60), (75, 0, 4)))))
        self.assertEqual(scaled(ALL_KINDS, (3, 1), (5, 2)), wanted)
        self.assertEqual(scaled(ALL_KINDS, (1, 1), (1, 1)), ALL_KINDS)

    def test_impedances(self):
        source = random.Random(41)
        for _ in range(25):
            many, parts = some_network(source, 4, 6)
            network = many, parts + (("Z", 0, 3, Z),)
            size, speed = Fraction(source.randint(1, 9), 10), Fraction(source.randint(1, 6), 7)
            other = scaled(network, as_ratio(size), as_ratio(speed))
            self.assertEqual([part[:3] for part in other[1]], [part[:3] for part in network[1]])
            slower, larger = divide(S, constant(as_ratio(speed))), constant(as_ratio(size))
            for at in range(len(network[1])):
                wanted = multiply(compose(part_impedance(network, at), slower), larger)
                self.assertEqual(part_impedance(other, at), wanted)
            wanted = multiply(compose(impedance(network, 0, 2), slower), larger)
            self.assertEqual(impedance(other, 0, 2), wanted)

    def test_answers_of_any_size(self):
        network = (2, (("R", 0, 1, (LIMIT, 1)), ("C", 0, 1, (1, LIMIT))))
        self.assertEqual(scaled(network, (LIMIT, 1), (LIMIT, 1)),
                         (2, (("R", 0, 1, (LIMIT ** 2, 1)), ("C", 0, 1, (1, LIMIT ** 3)))))

    def test_errors(self):
        for value in BAD_POSITIVES:
            self.raises(BadRatio, scaled, ALL_KINDS, value, (1, 1))
            self.raises(BadRatio, scaled, ALL_KINDS, (1, 1), value)
            self.raises(BadRatio, scaled, (1, ()), value, value)


class Turned(CoilTest):

    def test_parts(self):
        wanted = (3, (("R", 0, 1, (2, 3)), ("C", 1, 2, (4, 5)), ("L", 2, 0, (6, 7)),
                      ("Z", 0, 2, ((0, 2, 1), (1, 0, 3)))))
        self.assertEqual(turned(ALL_KINDS), wanted)
        self.assertEqual(turned(turned(ALL_KINDS)), ALL_KINDS)

    def test_impedances(self):
        source = random.Random(42)
        for _ in range(25):
            many, parts = some_network(source, 4, 6)
            network = many, parts + (("Z", 0, 3, Z),)
            wanted = compose(impedance(network, 1, 2), ((1,), (0, 1)))
            self.assertEqual(impedance(turned(network), 1, 2), wanted)


class StarAndTriangle(CoilTest):

    def test_values(self):
        two, three, five = ((2,), (1,)), ((3,), (1,)), ((5,), (1,))
        self.assertEqual(triangle_of(two, three, five), (((31,), (5,)), ((31,), (2,)), ((31,), (3,))))
        self.assertEqual(star_of(two, three, five), (((1,), (1,)), ((3,), (5,)), ((3,), (2,))))
        wanted = (((1, 1, 1), (1,)), ((1, 1, 1), (0, 1)), ((1, 1, 1), (0, 0, 1)))
        self.assertEqual(triangle_of(ONE, S, ((1,), (0, 1))), wanted)

    def test_there_and_back(self):
        some = [one for one in some_functions(43, 10, 1, 6) if one != ZERO]
        for one, two, three in product(some, some, some[:4]):
            triangle = triangle_of(one, two, three)
            if add(add(*triangle[:2]), triangle[2]) != ZERO:
                self.assertEqual(star_of(*triangle), (one, two, three))

    def test_same_network(self):
        """Between each two ends, with the third one left alone, star and triangle have one impedance."""
        some = [((1, 2), (1,)), ((3,), (0, 1)), ((2,), (5,)), S, ((1, 1), (2, 1))]
        for one, two, three in product(some, repeat=3):
            star = (4, tuple([("Z", at, 3, worth) for at, worth in enumerate((one, two, three))]))
            sides = triangle_of(one, two, three)
            triangle = (3, tuple([("Z", at, (at + 1) % 3, worth) for at, worth in enumerate(sides)]))
            for a, b in ((0, 1), (1, 2), (2, 0)):
                self.assertEqual(impedance(star, a, b), impedance(triangle, a, b))
            place = Fraction(3, 7)
            x, y, z = [quotient_at(worth, place) for worth in (one, two, three)]
            total = x * y + y * z + z * x
            wanted = [total / z, total / x, total / y]
            self.assertEqual([quotient_at(side, place) for side in sides], wanted)

    def test_zero(self):
        minus = ((-1,), (1,))
        for three in ((ZERO, ONE, S), (ONE, ZERO, S), (ONE, S, ZERO), (ZERO, ZERO, ZERO)):
            self.raises(NoFunction, triangle_of, *three)
        self.raises(NoFunction, star_of, ZERO, ZERO, ZERO)
        self.raises(NoFunction, star_of, ONE, ZERO, minus)
        self.raises(NoFunction, star_of, ONE, ONE, ((-2,), (1,)))
        self.assertEqual(star_of(ZERO, ONE, S), (ZERO, ZERO, divide(S, ((1, 1), (1,)))))
        self.assertEqual(triangle_of(((2,), (1,)), ((2,), (1,)), minus), (ZERO,) * 3)

    def test_too_large(self):
        one, two, three = ((1,), (1, 0, 0, 0, 0, 1)), ((1,), (1, 0, 0, 0, 1)), ((1,), (1, 0, 0, 0, 1))
        self.assertEqual(len(triangle_of(one, two, three)), 3)
        for call in (triangle_of, star_of):
            self.assertEqual(self.raises(TooLarge, call, power(12), S, ONE).most, 12)
        self.raises(NoFunction, triangle_of, power(12), S, ZERO)
        self.assertEqual(triangle_of(power(6), power(6), power(6)), (((0,) * 6 + (3,), (1,)),) * 3)

    def test_errors(self):
        for value in BAD_FUNCTIONS:
            for call in (triangle_of, star_of):
                self.raises(BadFunction, call, value, ZERO, ZERO)
                self.raises(BadFunction, call, ZERO, value, ZERO)
                self.raises(BadFunction, call, ZERO, ZERO, value)


class ArgumentsStay(CoilTest):

    def test_lists(self):
        for value in ([2, [R1]], (2, [list(R1)]), (2, (["R", 0, 1, [1, 1]],))):
            before = repr(value)
            self.raises(BadNetwork, turned, value)
            self.assertEqual(repr(value), before)


if __name__ == "__main__":
    unittest.main()
