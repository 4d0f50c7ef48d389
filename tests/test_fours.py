"""Promises 35, 37, 38 and 39: impedances, admittances and hybrids of two-ports, bridges, stars and triangles."""

import random
import unittest
from fractions import Fraction

from coilnets.chains import across_chain, cascade, is_symmetric, ladder_chain, loaded, network_chain, open_end
from coilnets.chains import series_chain, short_end, turned_round
from coilnets.errors import BadChain, BadFour, BadFunction, NoFunction, NotReciprocal, NotSymmetric, TooLarge
from coilnets.fours import admittances_of, arms_of, from_admittances, from_impedances, hybrids_of, impedances_of
from coilnets.fours import in_series, lattice, pie_of, side_by_side, tee_of
from coilnets.functions import add, degree, divide, multiply, reciprocal, subtract
from coilnets.networks import star_of, triangle_of
from coilnets.solving import impedance
from helpers import BAD_CHAINS, BAD_FOURS, BAD_FUNCTIONS, IDENTITY, ONE, S, SUM_OF_12, ZERO, CoilTest, power
from helpers import quotient_at, some_chains, some_functions, some_joined_network, some_ladder, some_network, sum_of

ALL_RUNGS = [(place, kind) for place in "SP" for kind in "RLC"]
TWO, LESS = ((2,), (1,)), ((-1,), (1,))
PLACE = Fraction(31, 37)
TURN = (ZERO, ONE, LESS, ZERO)
SERIES, ACROSS = series_chain(S), across_chain(S)


def negative(one):
    return subtract(ZERO, one)


def determinant(chain):
    a, b, c, d = chain
    return subtract(multiply(a, d), multiply(b, c))


def reciprocal_chains(seed, many):
    """Chains of ladders whose impedances may be anything but 0."""
    source = random.Random(seed)
    ones = [one for one in some_functions(seed, 4 * many, 1, 3) if one != ZERO]
    answer = []
    for _ in range(many):
        chain = IDENTITY
        for _ in range(source.randint(1, 4)):
            chain = cascade(chain, source.choice((series_chain, across_chain))(source.choice(ones)))
        answer.append(chain)
    return answer


def sums(one, other):
    return tuple([add(left, right) for left, right in zip(one, other)])


def between_ends(one, two):
    """The network of an impedance one from 1 to 2, two at each end to 0."""
    return 3, (("Z", 1, 2, one), ("Z", 2, 0, two), ("Z", 0, 1, two))


# The arm one is s ** 7 / (v w) with w = s ** 6 + 1 and v = s ** 7 + w, two is 1 / w.
WITH_LARGE_ARM = (((1, 0, 0, 0, 0, 0, 1, 2), (1, 0, 0, 0, 0, 0, 1)),
                  (power(7)[0][:-1] + (2,), (1, 0, 0, 0, 0, 0, 2, 0, 0, 0, 0, 0, 1)),
                  ((2, 0, 0, 0, 0, 0, 2, 2), (1,)), ((1, 0, 0, 0, 0, 0, 1, 2), (1, 0, 0, 0, 0, 0, 1)))


class Example(CoilTest):

    def test_interface(self):
        chain = ladder_chain((("S", "R", (1, 1)), ("P", "R", (2, 1)), ("S", "R", (1, 1))))
        self.assertEqual(impedances_of(chain), (((3,), (1,)), ((2,), (1,)), ((2,), (1,)), ((3,), (1,))))
        self.assertEqual(tee_of(chain), (((1,), (1,)), ((1,), (1,)), ((2,), (1,))))
        self.assertEqual(pie_of(chain), (((5,), (2,)), ((5,), (1,)), ((5,), (1,))))
        self.assertEqual(arms_of(chain), (((1,), (1,)), ((5,), (1,))))
        self.assertEqual(lattice(((0, 1), (1,)), ((1,), (0, 1)))[2], ((0, -2), (-1, 0, 1)))


class Fours(CoilTest):

    def test_formulas(self):
        for chain in some_chains(351, 60):
            a, b, c, d = chain
            whole = determinant(chain)
            for call, under, tops in ((impedances_of, c, (a, whole, ONE, d)),
                                      (admittances_of, b, (d, negative(whole), LESS, a)),
                                      (hybrids_of, d, (b, whole, LESS, c))):
                if under == ZERO:
                    self.assertIsNone(call(chain))
                else:
                    self.assertEqual(call(chain), tuple([divide(top, under) for top in tops]))

    def test_meaning(self):
        """They tell some voltages and currents by the others."""
        for chain in some_chains(352, 60):
            a, b, c, d = [quotient_at(one, PLACE) for one in chain]
            w, j = Fraction(3), Fraction(-5, 7)
            v, i = a * w + b * j, c * w + d * j
            for call, given, told in ((impedances_of, (i, -j), (v, w)), (admittances_of, (v, w), (i, -j)),
                                      (hybrids_of, (i, w), (v, -j))):
                four = call(chain)
                if four is not None:
                    p, q, r, t = [quotient_at(one, PLACE) for one in four]
                    self.assertEqual((p * given[0] + q * given[1], r * given[0] + t * given[1]), told)

    def test_zeros(self):
        self.assertIsNone(impedances_of(IDENTITY))
        self.assertIsNone(impedances_of(SERIES))
        self.assertIsNone(admittances_of(IDENTITY))
        self.assertIsNone(admittances_of(ACROSS))
        self.assertIsNone(hybrids_of(TURN))
        self.assertEqual(impedances_of(ACROSS), (S,) * 4)
        self.assertEqual(impedances_of(TURN), (ZERO, LESS, LESS, ZERO))
        self.assertEqual(admittances_of(SERIES), tuple([divide(one, S) for one in (ONE, LESS, LESS, ONE)]))
        self.assertEqual(admittances_of(TURN), (ZERO, LESS, LESS, ZERO))
        self.assertEqual(hybrids_of(IDENTITY), (ZERO, ONE, LESS, ZERO))
        self.assertEqual(hybrids_of(SERIES), (S, ONE, LESS, ZERO))
        self.assertEqual(hybrids_of(ACROSS), (ZERO, ONE, LESS, reciprocal(S)))
        self.assertEqual(impedances_of((ZERO, S, ONE, S)), (ZERO, negative(S), ONE, S))

    def test_there_and_back(self):
        for chain in some_chains(353, 60) + [SERIES, ACROSS, TURN]:
            for there, back in ((impedances_of, from_impedances), (admittances_of, from_admittances)):
                four = there(chain)
                if four is not None:
                    self.assertEqual(back(four), chain)

    def test_back_and_there(self):
        ones = some_functions(354, 160, 1, 2)
        for at in range(0, 160, 4):
            four = tuple(ones[at:at + 4])
            for there, back in ((impedances_of, from_impedances), (admittances_of, from_admittances)):
                if four[1] == ZERO or four[2] == ZERO:
                    self.raises(NoFunction, back, four)
                else:
                    self.assertEqual(there(back(four)), four)

    def test_no_function(self):
        for back in (from_impedances, from_admittances):
            for one in (ZERO, ONE, S):
                for other in (ZERO, ONE):
                    self.raises(NoFunction, back, (one, S, ZERO, other))
                    self.raises(NoFunction, back, (one, ZERO, S, other))
                    self.raises(NoFunction, back, (one, ZERO, ZERO, other))
        self.assertEqual(from_impedances((ZERO, ONE, S, ZERO)), (ZERO, LESS, reciprocal(S), ZERO))
        self.assertEqual(from_impedances((ONE,) * 4), across_chain(ONE))
        self.assertEqual(from_admittances((ONE, LESS, LESS, ONE)), series_chain(ONE))

    def test_degrees(self):
        for call, chain in ((impedances_of, (SUM_OF_12, ZERO, S, ONE)), (impedances_of, (ONE, ZERO, S, SUM_OF_12)),
                            (impedances_of, (S, ((2,), (1,)), SUM_OF_12, ONE)),
                            (admittances_of, (SUM_OF_12, S, ZERO, ONE)), (admittances_of, (ONE, S, ZERO, SUM_OF_12)),
                            (hybrids_of, (ONE, SUM_OF_12, ZERO, S)), (hybrids_of, (ONE, ZERO, SUM_OF_12, S))):
            self.assertEqual(self.raises(TooLarge, call, chain).most, 12)
        self.assertEqual(impedances_of((power(12), ZERO, S, ONE))[0], power(11))
        self.assertEqual(impedances_of((ZERO, ONE, SUM_OF_12, ZERO))[2], reciprocal(SUM_OF_12))
        self.assertEqual(from_impedances((ZERO, ONE, SUM_OF_12, ZERO))[2], reciprocal(SUM_OF_12))
        self.raises(TooLarge, from_impedances, (SUM_OF_12, ONE, S, ZERO))
        self.raises(TooLarge, from_impedances, (power(7), ONE, ONE, power(6)))
        self.assertEqual(from_impedances((power(6), ONE, ONE, power(6)))[1], ((-1,) + (0,) * 11 + (1,), (1,)))
        self.raises(TooLarge, from_admittances, (SUM_OF_12, ONE, S, ZERO))
        self.raises(TooLarge, from_admittances, (power(7), ONE, ONE, power(6)))

    def test_errors(self):
        for value, index in BAD_CHAINS:
            for call in (impedances_of, admittances_of, hybrids_of):
                self.assertEqual(self.raises(BadChain, call, value).index, index)
        for value, index in BAD_FOURS:
            for call in (from_impedances, from_admittances):
                self.assertEqual(self.raises(BadFour, call, value).index, index)


class Together(CoilTest):

    def test_sums(self):
        chains = some_chains(371, 80)
        for one, other in zip(chains[::2], chains[1::2]):
            for call, there, back in ((side_by_side, admittances_of, from_admittances),
                                      (in_series, impedances_of, from_impedances)):
                ones, others = there(one), there(other)
                if ones is None or others is None:
                    self.raises(NoFunction, call, one, other)
                    continue
                total = sums(ones, others)
                if total[1] == ZERO or total[2] == ZERO:
                    self.raises(NoFunction, call, one, other)
                else:
                    self.assertEqual(call(one, other), back(total))
                    self.assertEqual(call(other, one), back(total))

    def test_networks_side_by_side(self):
        """Two networks with the same nodes 0, input and output."""
        source = random.Random(372)
        found = 0
        for _ in range(40):
            (many, parts), (more, others) = some_joined_network(source), some_joined_network(source)
            one, other = network_chain((many, parts), 1, 2), network_chain((more, others), 1, 2)
            moved = tuple([(kind, moved_on(a, many), moved_on(b, many), worth) for kind, a, b, worth in others])
            try:
                chain = network_chain((many + more - 3, parts + moved), 1, 2)
            except TooLarge:
                continue
            if one[1] != ZERO and other[1] != ZERO:
                self.assertEqual(side_by_side(one, other), chain)
                found += 1
        self.assertGreater(found, 20)

    def test_common_line(self):
        """An impedance in the common line is in series with a network as the chain of it across both lines."""
        source = random.Random(373)
        found = 0
        for _ in range(30):
            many, parts = some_joined_network(source)
            chain = network_chain((many, parts), 1, 2)
            lifted = tuple([(kind, a or many, b or many, worth) for kind, a, b, worth in parts])
            with_line = network_chain((many + 1, lifted + (("L", 0, many, (3, 2)),)), 1, 2)
            self.assertEqual(in_series(chain, across_chain(((0, 3), (2,)))), with_line)
            found += 1
        self.assertEqual(found, 30)

    def test_no_function(self):
        for call, none, other in ((side_by_side, ACROSS, SERIES), (in_series, SERIES, ACROSS)):
            self.raises(NoFunction, call, none, other)
            self.raises(NoFunction, call, other, none)
            self.raises(NoFunction, call, none, none)
            self.raises(NoFunction, call, IDENTITY, other)
        self.assertEqual(side_by_side(SERIES, SERIES), series_chain(((0, 1), (2,))))
        self.assertEqual(in_series(ACROSS, ACROSS), across_chain(((0, 2), (1,))))
        # The sums of the third ones, or of the second ones alone, are 0.
        self.raises(NoFunction, side_by_side, SERIES, series_chain(((0, -1), (1,))))
        self.raises(NoFunction, in_series, ACROSS, across_chain(((0, -1), (1,))))
        for back, call in ((from_impedances, in_series), (from_admittances, side_by_side)):
            self.raises(NoFunction, call, back((S, ONE, S, ONE)), back((S, LESS, ONE, ONE)))
            self.raises(NoFunction, call, back((S, ONE, LESS, ONE)), back((S, S, ONE, ONE)))
            self.assertEqual(call(back((S, ONE, LESS, ONE)), back((S, S, TWO, ONE))),
                             back((((0, 2), (1,)), ((1, 1), (1,)), ONE, TWO)))

    def test_degrees(self):
        left = sum_of([ONE] + [((1,), (k, 1)) for k in range(1, 7)])
        for many in (6, 7):
            right = sum_of([ONE] + [((1,), (k, 2)) for k in range(1, 2 * many, 2)])
            for call, make in ((in_series, across_chain), (side_by_side, series_chain)):
                if many == 6:
                    self.assertEqual(max(map(degree, call(make(left), make(right)))), 12)
                else:
                    self.assertEqual(self.raises(TooLarge, call, make(left), make(right)).most, 12)

    def test_errors(self):
        for call in (side_by_side, in_series):
            for value, index in BAD_CHAINS:
                self.assertEqual(self.raises(BadChain, call, value, SERIES).index, index)
                self.assertEqual(self.raises(BadChain, call, SERIES, value).index, index)
            self.assertEqual(self.raises(BadChain, call, (ONE, ONE, None, ONE), (None,) * 4).index, 2)
            self.assertIsNone(self.raises(BadChain, call, (ONE,) * 4, (None,) * 4).index)


def moved_on(node, many):
    return node if node < 3 else node + many - 3


class Lattice(CoilTest):

    def test_bridge(self):
        """It is what the bridge does between its ends: with an end open, closed, or loaded with an impedance."""
        source = random.Random(381)
        ones = [one for one in some_functions(382, 200, 1, 3) if one != ZERO]
        found = 0
        while found < 40:
            one, two, load = source.choice(ones), source.choice(ones), source.choice(ones)
            if one == two:
                self.raises(NoFunction, lattice, one, two)
                continue
            chain = lattice(one, two)
            self.assertTrue(is_symmetric(chain))
            # The input is between 0 and 1, the output between 2 and 3, 3 standing on the side of 0.
            bridge = (("Z", 1, 2, one), ("Z", 0, 3, one), ("Z", 1, 3, two), ("Z", 0, 2, two))
            try:
                seen = impedance((4, bridge + (("Z", 2, 3, load),)), 1, 0)
                wanted = loaded(chain, load)
                seen_open = impedance((4, bridge), 1, 0)
            except NoFunction:
                continue
            self.assertEqual(wanted, seen)
            self.assertEqual(open_end(chain), seen_open)
            found += 1

    def test_known(self):
        self.assertEqual(lattice(ZERO, S), (ONE, ZERO, ((2,), (0, 1)), ONE))
        self.assertEqual(lattice(S, ZERO), (LESS, ZERO, ((-2,), (0, 1)), LESS))
        self.assertEqual(lattice(ONE, S), (((1, 1), (-1, 1)), ((0, 2), (-1, 1)), ((2,), (-1, 1)), ((1, 1), (-1, 1))))
        self.assertEqual(lattice(negative(S), S), (ZERO, negative(S), reciprocal(S), ZERO))

    def test_no_function(self):
        for one in (ZERO, ONE, S, SUM_OF_12):
            self.raises(NoFunction, lattice, one, one)

    def test_degrees(self):
        self.assertEqual(degree(lattice(power(6), ((5,) + (0,) * 5 + (1,), (1,)))[1]), 12)
        self.assertEqual(self.raises(TooLarge, lattice, power(7), ((5,) + (0,) * 5 + (1,), (1,))).most, 12)
        self.assertEqual(self.raises(TooLarge, lattice, SUM_OF_12, S).most, 12)

    def test_there_and_back(self):
        ones = some_functions(383, 80, 2, 4)
        for one, two in zip(ones[::2], ones[1::2]):
            if one != two:
                self.assertEqual(arms_of(lattice(one, two)), (one, two))
                p, q, r, t = impedances_of(lattice(one, two))
                self.assertEqual((add(p, q), subtract(p, q), r, t), (two, one, q, p))

    def test_halves(self):
        """The arms of a network and its mirror image are its half with the joined nodes at 0, and alone."""
        source = random.Random(384)
        for _ in range(30):
            ladder = some_ladder(source, source.randint(1, 4), ALL_RUNGS)
            chain = ladder_chain(ladder + ladder[::-1])
            half = ladder_chain(ladder)
            if chain[2] == ZERO:
                self.raises(NoFunction, arms_of, chain)
            else:
                self.assertEqual(arms_of(chain), (short_end(half), open_end(half)))

    def test_halves_joined_at_several_nodes(self):
        source = random.Random(385)
        found = 0
        while found < 20:
            many, parts = some_network(source, 4, source.randint(4, 6))
            # The half has the nodes 0 to 3, its image the node 4 for 1; at 2 and 3 they are joined.
            image = tuple([(kind, 4 if a == 1 else a, 4 if b == 1 else b, worth) for kind, a, b, worth in parts])
            closed = tuple([(kind, a if a == 1 else 0, b if b == 1 else 0, worth) for kind, a, b, worth in parts
                            if (a == 1) != (b == 1)])
            if not closed:
                continue
            try:
                chain = network_chain((5, parts + image), 1, 4)
            except (NoFunction, TooLarge):
                continue
            found += 1
            self.assertTrue(is_symmetric(chain))
            self.assertEqual(arms_of(chain), (impedance((2, closed), 1, 0), impedance((many, parts), 1, 0)))

    def test_arms_of_no_function(self):
        self.raises(NoFunction, arms_of, IDENTITY)
        self.raises(NoFunction, arms_of, SERIES)
        self.assertEqual(arms_of(ACROSS), (ZERO, ((0, 2), (1,))))
        self.assertEqual(arms_of((ZERO, S, negative(reciprocal(S)), ZERO)), (S, negative(S)))

    def test_not_symmetric(self):
        for chain in ((ONE, ONE, ONE, TWO), (ZERO, ONE, ONE, ZERO), (ZERO, ONE, LESS, S), (S, ZERO, ZERO, ONE),
                      (TWO, ONE, ONE, ONE), (ONE, S, ZERO, S), (TWO, ZERO, ZERO, TWO)):
            self.raises(NotSymmetric, arms_of, chain)

    def test_arms_of_degrees(self):
        chain = (power(6), ((-1,) + (0,) * 11 + (1,), (1,)), ONE, power(6))
        self.assertEqual(arms_of(chain), (((-1,) + (0,) * 5 + (1,), (1,)), ((1,) + (0,) * 5 + (1,), (1,))))
        self.assertTrue(is_symmetric(WITH_LARGE_ARM))
        self.assertEqual(self.raises(TooLarge, arms_of, WITH_LARGE_ARM).most, 12)

    def test_errors(self):
        for value in BAD_FUNCTIONS:
            self.raises(BadFunction, lattice, value, S)
            self.raises(BadFunction, lattice, S, value)
            self.raises(BadFunction, lattice, ZERO, value)
        for value, index in BAD_CHAINS:
            self.assertEqual(self.raises(BadChain, arms_of, value).index, index)


class TeeAndPie(CoilTest):

    def test_ladders(self):
        source = random.Random(391)
        ones = [one for one in some_functions(392, 120, 1, 3) if one != ZERO]
        for _ in range(40):
            one, two, three = [source.choice(ones) for _ in range(3)]
            tee = cascade(cascade(series_chain(one), across_chain(three)), series_chain(two))
            self.assertEqual(tee_of(tee), (one, two, three))
            pie = cascade(cascade(across_chain(three), series_chain(one)), across_chain(two))
            self.assertEqual(pie_of(pie), (one, two, three))

    def test_star_and_triangle(self):
        found = 0
        for chain in reciprocal_chains(393, 60):
            if chain[2] == ZERO:
                self.raises(NoFunction, tee_of, chain)
            elif chain[1] == ZERO:
                self.raises(NoFunction, pie_of, chain)
            else:
                one, two, three = tee_of(chain)
                p, q, _, t = impedances_of(chain)
                self.assertEqual((one, two, three), (subtract(p, q), subtract(t, q), q))
                if ZERO not in (one, two, three):
                    self.assertEqual(pie_of(chain), triangle_of(one, two, three))
                    if None not in pie_of(chain):
                        self.assertEqual(star_of(*pie_of(chain)), (one, two, three))
                found += 1
        self.assertGreater(found, 20)

    def test_networks(self):
        source = random.Random(394)
        for _ in range(30):
            chain = network_chain(some_joined_network(source), 1, 2)
            one, two, three = tee_of(chain)
            self.assertEqual(open_end(chain), add(one, three))
            self.assertEqual(open_end(turned_round(chain)), add(two, three))

    def test_beyond_all_bounds(self):
        self.assertEqual(pie_of(SERIES), (S, None, None))
        self.assertEqual(pie_of(cascade(across_chain(ONE), SERIES)), (S, None, ONE))
        self.assertEqual(pie_of(cascade(SERIES, across_chain(ONE))), (S, ONE, None))
        self.assertEqual(pie_of(TURN), (ONE, LESS, LESS))
        self.assertEqual(pie_of((ONE, S, reciprocal(S), TWO)), (S, None, S))

    def test_zeros(self):
        self.assertEqual(tee_of(ACROSS), (ZERO, ZERO, S))
        self.assertEqual(tee_of(cascade(SERIES, ACROSS)), (S, ZERO, S))
        self.assertEqual(tee_of(TURN), (ONE, ONE, LESS))
        for chain in (IDENTITY, SERIES, (S, ZERO, ZERO, reciprocal(S)), (S, ONE, ZERO, reciprocal(S))):
            self.raises(NoFunction, tee_of, chain)
        for chain in (IDENTITY, ACROSS, (S, ZERO, ZERO, reciprocal(S)), (S, ZERO, ONE, reciprocal(S))):
            self.raises(NoFunction, pie_of, chain)

    def test_not_reciprocal(self):
        for chain in ((ZERO, ONE, ONE, ZERO), (S, ZERO, ZERO, ONE), (TWO, ONE, ONE, TWO), (S, ONE, ZERO, S),
                      (ONE, ONE, LESS, ONE)):
            self.raises(NotReciprocal, tee_of, chain)
            self.raises(NotReciprocal, pie_of, chain)

    def test_degrees(self):
        self.assertEqual(tee_of(across_chain(SUM_OF_12)), (ZERO, ZERO, SUM_OF_12))
        self.assertEqual(pie_of(series_chain(SUM_OF_12)), (SUM_OF_12, None, None))
        self.assertEqual(self.raises(TooLarge, tee_of, WITH_LARGE_ARM).most, 12)
        less = divide(ONE, S)
        for chain in ((S, ZERO, SUM_OF_12, less), (less, ZERO, SUM_OF_12, S)):
            self.assertEqual(self.raises(TooLarge, tee_of, chain).most, 12)
        for chain in ((S, SUM_OF_12, ZERO, less), (less, SUM_OF_12, ZERO, S)):
            self.assertEqual(self.raises(TooLarge, pie_of, chain).most, 12)
        self.assertEqual(pie_of((S, power(11), ZERO, less)), (power(11), ((0,) * 11 + (1,), (-1, 1)),
                                                              ((0,) * 12 + (-1,), (-1, 1))))

    def test_errors(self):
        for value, index in BAD_CHAINS:
            for call in (tee_of, pie_of):
                self.assertEqual(self.raises(BadChain, call, value).index, index)


if __name__ == "__main__":
    unittest.main()
