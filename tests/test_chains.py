"""Promises 33, 34, 36 and 40: two-ports, their chains, and their ends."""

import random
import unittest
from fractions import Fraction

from coilnets.chains import across_chain, cascade, is_reciprocal, is_symmetric, ladder_chain, loaded, network_chain
from coilnets.chains import open_end, series_chain, short_end, turned_round
from coilnets.errors import BadChain, BadFunction, BadLadder, BadNetwork, BadNode, NoFunction, NotJoined, TooLarge
from coilnets.fours import impedances_of
from coilnets.functions import add, compose, degree, divide, multiply, reciprocal, subtract
from coilnets.ladders import ladder_impedance, ladder_network
from coilnets.solving import impedance, potentials
from helpers import BAD_CHAINS, BAD_FUNCTIONS, BAD_LADDERS, BAD_NETWORKS, BAD_NODES, IDENTITY, LIMIT, ONE, POSITIVES
from helpers import R1, RUNG, S, SUM_OF_12, ZERO, CoilTest, admittance_at, ladder_at, matrix_at, matrix_product, power
from helpers import quotient_at, some_chains, some_functions, some_joined_network, some_ladder

ALL_RUNGS = [(place, kind) for place in "SP" for kind in "RLC"]
PLACES = (Fraction(1, 3), Fraction(2), Fraction(-7, 5))
PLUS, MINUS = ("Z", 0, 1, ONE), ("Z", 0, 1, ((-1,), (1,)))


def determinant(chain):
    a, b, c, d = chain
    return subtract(multiply(a, d), multiply(b, c))


class Example(CoilTest):

    def test_interface(self):
        chain = ladder_chain((("S", "L", (1, 1)), ("P", "R", (1, 1))))
        self.assertEqual(chain, (((1, 1), (1,)), ((0, 1), (1,)), ((1,), (1,)), ((1,), (1,))))
        self.assertEqual(loaded(chain, ONE), ((1, 2), (2,)))
        self.assertEqual(open_end(chain), ((1, 1), (1,)))
        self.assertEqual(turned_round(chain), (((1,), (1,)), ((0, 1), (1,)), ((1,), (1,)), ((1, 1), (1,))))
        self.assertIs(is_symmetric(chain), False)
        self.assertEqual(network_chain((3, (("L", 1, 2, (1, 1)), ("R", 2, 0, (1, 1)))), 1, 2), chain)


class OneImpedance(CoilTest):

    def test_series(self):
        for one in POSITIVES + tuple(some_functions(331, 30, 4, 9)):
            self.assertEqual(series_chain(one), (ONE, one, ZERO, ONE))

    def test_across(self):
        for one in POSITIVES + tuple(some_functions(332, 30, 4, 9)):
            if one != ZERO:
                self.assertEqual(across_chain(one), (ONE, ZERO, reciprocal(one), ONE))

    def test_zero(self):
        self.assertEqual(series_chain(ZERO), IDENTITY)
        self.raises(NoFunction, across_chain, ZERO)

    def test_greatest_degree(self):
        self.assertEqual(series_chain(SUM_OF_12)[1], SUM_OF_12)
        self.assertEqual(degree(across_chain(SUM_OF_12)[2]), 12)

    def test_errors(self):
        for value in BAD_FUNCTIONS:
            self.raises(BadFunction, series_chain, value)
            self.raises(BadFunction, across_chain, value)


class Cascade(CoilTest):

    def test_values(self):
        chains = some_chains(333, 40)
        for one, other in zip(chains, chains[1:]):
            found = cascade(one, other)
            for place in (Fraction(17, 19), Fraction(-23, 29)):
                self.assertEqual(matrix_at(found, place), matrix_product(matrix_at(one, place), matrix_at(other, place)))

    def test_known(self):
        self.assertEqual(cascade(series_chain(S), across_chain(S)), (((2,), (1,)), S, ((1,), (0, 1)), ONE))
        self.assertEqual(cascade(across_chain(S), series_chain(S)), (ONE, S, ((1,), (0, 1)), ((2,), (1,))))
        self.assertEqual(cascade(series_chain(ONE), series_chain(S)), series_chain(((1, 1), (1,))))
        self.assertEqual(cascade(series_chain(S), series_chain(((0, -1), (1,)))), IDENTITY)

    def test_degrees(self):
        self.assertEqual(cascade(series_chain(power(6)), across_chain(((1,), power(6)[0])))[0],
                         ((1,) + (0,) * 11 + (1,), (1,)))
        for one, other in ((power(6), power(7)), (power(12), S), (power(1), power(12))):
            error = self.raises(TooLarge, cascade, series_chain(one), across_chain(reciprocal(other)))
            self.assertEqual(error.most, 12)
        # Here just one of the four functions is too large.
        for many, fits in ((6, True), (7, False)):
            one, other = power(6), power(many)
            for first, second, at in (((one, ZERO, ZERO, ONE), (other, ZERO, ZERO, ONE), 0),
                                      ((one, ZERO, ZERO, ONE), (ZERO, other, ONE, ZERO), 1),
                                      ((ONE, ZERO, ZERO, one), (ZERO, ONE, other, ZERO), 2),
                                      ((ONE, ZERO, ZERO, one), (ONE, ZERO, ZERO, other), 3)):
                if fits:
                    self.assertEqual(cascade(first, second)[at], power(12))
                else:
                    self.raises(TooLarge, cascade, first, second)

    def test_errors(self):
        for value, index in BAD_CHAINS:
            self.assertEqual(self.raises(BadChain, cascade, value, IDENTITY).index, index)
            self.assertEqual(self.raises(BadChain, cascade, IDENTITY, value).index, index)
        self.assertEqual(self.raises(BadChain, cascade, (ONE, None, ONE, ONE), (None,) * 4).index, 1)


class Ladder(CoilTest):

    def test_rungs_behind_another(self):
        source = random.Random(334)
        for _ in range(60):
            ladder = some_ladder(source, source.randint(1, 6), ALL_RUNGS)
            chain = IDENTITY
            for rung in ladder:
                make = series_chain if rung[0] == "S" else across_chain
                chain = cascade(chain, make(ladder_impedance((rung,))))
            self.assertEqual(ladder_chain(ladder), chain)
            self.assertTrue(is_reciprocal(chain))

    def test_impedance(self):
        """The impedance of a ladder is that of its chain with a closed end behind a rung in series, else an open one."""
        source = random.Random(335)
        for _ in range(60):
            ladder = some_ladder(source, source.randint(1, 12), ALL_RUNGS)
            end = short_end if ladder[-1][0] == "S" else open_end
            self.assertEqual(end(ladder_chain(ladder)), ladder_impedance(ladder))

    def test_continued_sums(self):
        source = random.Random(336)
        for many in range(1, 13):
            turns = [("S", "P"), ("P", "S")][many % 3 == 0]
            ladder = tuple([(turns[at % 2],) + some_ladder(source, 1, ALL_RUNGS)[0][1:] for at in range(many)])
            chain = ladder_chain(ladder)
            for place in PLACES:
                values = [1 / admittance_at((kind, 0, 1, worth), place) for _, kind, worth in ladder]
                values = [value if rung[0] == "S" else 1 / value for value, rung in zip(values, ladder)]
                # Numbers that are 0 at the ends make the sums those of a ladder that begins and ends as is needed.
                first, last = ladder[0][0] == "S", ladder[-1][0] == "S"
                whole = ([] if first else [0]) + values + ([0] if last else [])
                rows = ((continued(whole), continued(whole[:-1])), (continued(whole[1:]), continued(whole[1:-1])))
                self.assertEqual(matrix_at(chain, place), rows)

    def test_degrees(self):
        ones = ((("S", "L", (1, 1)), ("P", "C", (1, 1))) * 7)[:13]
        for more in (ones, ones[1:] + ones[1:2]):
            self.assertEqual(self.raises(TooLarge, ladder_chain, more).most, 12)
            self.assertEqual(max(map(degree, ladder_chain(more[:12]))), 12)
        self.assertEqual(ladder_chain((("S", "L", (1, 1)),) * 13), series_chain(((0, 13), (1,))))
        self.assertEqual(ladder_chain((("P", "L", (1, 1)),) * 13), across_chain(((0, 1), (13,))))

    def test_errors(self):
        for value, index in BAD_LADDERS:
            self.assertEqual(self.raises(BadLadder, ladder_chain, value).index, index)
        self.assertEqual(self.raises(BadLadder, ladder_chain, (RUNG,) * 12 + (None,)).index, 12)


def continued(values):
    """The continued sum K of all values."""
    before, found = 0, 1
    for value in values:
        before, found = found, value * found + before
    return found


class Network(CoilTest):

    def test_currents(self):
        """The chain tells the voltages and the currents for what is sent into i and o."""
        source = random.Random(341)
        for _ in range(60):
            network = some_joined_network(source)
            i, o = source.sample(range(1, 3), 2)
            chain = network_chain(network, i, o)
            one, other = potentials(network, i, 0), potentials(network, o, 0)
            self.assertEqual(impedances_of(chain), (one[i], other[i], one[o], other[o]))
            self.assertTrue(is_reciprocal(chain))

    def test_ladders(self):
        source = random.Random(342)
        for _ in range(40):
            ladder = some_ladder(source, source.randint(1, 5), ALL_RUNGS) + (("P", "R", (3, 2)),)
            if any(rung[0] == "S" for rung in ladder):
                network = ladder_network(ladder)
                self.assertEqual(network_chain(network, 1, network[0] - 1), ladder_chain(ladder))

    def test_any_impedances(self):
        """Chains of networks with parts that may be anything are reciprocal, and make the impedance with an end."""
        source = random.Random(343)
        ones = [one for one in some_functions(343, 60, 1, 3) if one != ZERO]
        found = 0
        for _ in range(60):
            many, parts = some_joined_network(source)
            network = many, tuple([("Z", a, b, source.choice(ones)) for _, a, b, _ in parts])
            try:
                chain = network_chain(network, 1, 2)
                whole = impedance((many, parts_with(network, ("R", 0, 2, (2, 1)))), 1, 0)
            except (NoFunction, TooLarge):
                continue
            found += 1
            self.assertTrue(is_reciprocal(chain))
            self.assertEqual(loaded(chain, ((2,), (1,))), whole)
        self.assertGreater(found, 40)

    def test_nodes_beside(self):
        """Nodes that are not joined, also with parts that have no potentials, have no effect."""
        parts = (("L", 2, 3, (1, 1)), ("R", 0, 3, (1, 1)), ("Z", 1, 4, ONE), ("Z", 4, 1, ((-1,), (1,))))
        self.assertEqual(network_chain((5, parts), 2, 3), ladder_chain((("S", "L", (1, 1)), ("P", "R", (1, 1)))))

    def test_not_joined(self):
        self.raises(NotJoined, network_chain, (3, ()), 1, 2)
        self.raises(NotJoined, network_chain, (3, (R1,)), 1, 2)
        self.raises(NotJoined, network_chain, (3, (R1,)), 2, 1)
        self.raises(NotJoined, network_chain, (3, (("R", 1, 2, (1, 1)),)), 1, 2)
        self.raises(NotJoined, network_chain, (4, (R1, ("L", 3, 2, (1, 1)))), 1, 2)
        self.raises(NotJoined, network_chain, (3, (PLUS, MINUS)), 1, 2)

    def test_no_function(self):
        # No potentials, as the admittances from 0 add up to 0.
        self.raises(NoFunction, network_chain, (3, (PLUS, MINUS, ("R", 1, 2, (1, 1)))), 1, 2)
        loop = (("Z", 0, 1, ONE), ("R", 1, 2, (1, 1)), ("Z", 2, 0, ((-2,), (1,))))
        self.raises(NoFunction, network_chain, (3, loop), 1, 2)
        self.assertEqual(network_chain((3, loop[:2] + (("R", 2, 0, (2, 1)),)), 1, 2)[1], ONE)
        # Two rows of parts that send nothing to o together, and a bridge in balance.
        cross = (("R", 0, 1, (1, 1)), ("R", 0, 2, (1, 1)), ("Z", 1, 2, ONE), ("Z", 1, 2, ((-1,), (1,))))
        self.raises(NoFunction, network_chain, (3, cross), 1, 2)
        self.raises(NoFunction, network_chain, (3, cross), 2, 1)
        self.assertEqual(network_chain((3, cross[:3]), 1, 2)[1], ONE)

    def test_greatest_degree(self):
        rungs = tuple([("S", "L", (1, 1)) if at % 2 else ("P", "C", (1, 1)) for at in range(13)])
        network = ladder_network(rungs)
        self.assertEqual(self.raises(TooLarge, network_chain, network, 1, 7).most, 12)
        self.assertEqual(network_chain((7, network[1][:11]), 1, 6), ladder_chain(rungs[:11]))
        self.assertEqual(network_chain((8, network[1][1:]), 1, 7), ladder_chain(rungs[1:]))
        far = (("Z", 1, 2, power(6)), ("Z", 0, 2, ((1,), (1,) + (0,) * 5 + (1,))))
        self.assertEqual(degree(network_chain((3, far), 1, 2)[0]), 12)
        far = far[:1] + (("Z", 0, 2, ((1,), (1,) + (0,) * 6 + (1,))),)
        self.assertEqual(self.raises(TooLarge, network_chain, (3, far), 1, 2).most, 12)

    def test_errors(self):
        for value, index in BAD_NETWORKS:
            self.assertEqual(self.raises(BadNetwork, network_chain, value, 1, 2).index, index)
            self.assertEqual(self.raises(BadNetwork, network_chain, value, None, 0).index, index)
        for network in ((3, (R1,)), (3, ()), (8, ())):
            for value in BAD_NODES + (0, network[0]):
                self.raises(BadNode, network_chain, network, value, 2)
                self.raises(BadNode, network_chain, network, 2, value)
                self.raises(BadNode, network_chain, network, value, value)
            self.raises(BadNode, network_chain, network, 1, 1)


def parts_with(network, part):
    return network[1] + (part,)


class Kinds(CoilTest):

    def test_known(self):
        for chain, reciprocal_too, symmetric_too in (
                (IDENTITY, True, True), (series_chain(S), True, True), (across_chain(S), True, True),
                ((ONE, ONE, ONE, ((2,), (1,))), True, False), ((ZERO, ONE, ((-1,), (1,)), ZERO), True, True),
                ((ZERO, ONE, ONE, ZERO), False, False), ((S, ZERO, ZERO, ONE), False, False),
                ((S, ZERO, ZERO, S), False, False), ((S, ZERO, ZERO, reciprocal(S)), True, False),
                ((((1, 1), (1,)), S, ((2, 1), (1,)), ((1, 1), (1,))), True, True),
                ((((2,), (1,)), ONE, ((2,), (1,)), ((2,), (1,))), False, False)):
            self.assertIs(is_reciprocal(chain), reciprocal_too, chain)
            self.assertIs(is_symmetric(chain), symmetric_too, chain)

    def test_some_chains(self):
        many = [0, 0]
        for chain in some_chains(361, 60):
            self.assertEqual(is_reciprocal(chain), determinant(chain) == ONE)
            self.assertEqual(is_symmetric(chain), determinant(chain) == ONE and chain[0] == chain[3])
            many[is_reciprocal(chain)] += 1
        self.assertGreater(min(many), 10)

    def test_mirror(self):
        """A ladder that is its own mirror image has a symmetric chain."""
        source = random.Random(362)
        for _ in range(20):
            ladder = some_ladder(source, source.randint(1, 3), ALL_RUNGS)
            self.assertTrue(is_symmetric(ladder_chain(ladder + ladder[::-1])))
            self.assertTrue(is_symmetric(ladder_chain(ladder[:-1] + ladder[::-1])))

    def test_errors(self):
        for value, index in BAD_CHAINS:
            for call in (is_reciprocal, is_symmetric, turned_round, open_end, short_end):
                self.assertEqual(self.raises(BadChain, call, value).index, index)


class TurnedRound(CoilTest):

    def test_networks(self):
        source = random.Random(363)
        for _ in range(40):
            network = some_joined_network(source)
            chain = network_chain(network, 1, 2)
            self.assertEqual(turned_round(chain), network_chain(network, 2, 1))
            self.assertEqual(turned_round(chain), (chain[3],) + chain[1:3] + (chain[0],))

    def test_impedances(self):
        """Input and output change places in the impedances, also if the chain is not reciprocal."""
        for chain in some_chains(364, 60):
            found = turned_round(chain)
            self.assertEqual(turned_round(found), chain)
            if chain[2] != ZERO:
                self.assertEqual(impedances_of(found), impedances_of(chain)[::-1])
            whole = determinant(chain)
            self.assertEqual(found, tuple([divide(chain[at], whole) for at in (3, 1, 2, 0)]))

    def test_degrees(self):
        """The sum of degrees of d and of a d - b c may be too great."""
        self.assertEqual(turned_round((power(12), ZERO, ZERO, ONE)), (reciprocal(power(12)), ZERO, ZERO, ONE))
        chain = (((1, 1), (1,)), ZERO, ZERO, SUM_OF_12)
        self.assertEqual(turned_round(chain)[3], divide(ONE, SUM_OF_12))
        chain = (((1, 1), (1,)), power(12), ZERO, ONE)
        self.assertEqual(degree(turned_round(chain)[1]), 12)
        chain = (((0, 1), (1,)), SUM_OF_12, ZERO, ONE)
        self.assertEqual(self.raises(TooLarge, turned_round, chain).most, 12)


class Ends(CoilTest):

    def test_values(self):
        ones = some_functions(365, 60, 2, 5)
        for chain, one in zip(some_chains(366, 60), ones):
            a, b, c, d = chain
            top, bottom = add(multiply(a, one), b), add(multiply(c, one), d)
            if bottom == ZERO:
                self.raises(NoFunction, loaded, chain, one)
            else:
                self.assertEqual(loaded(chain, one), divide(top, bottom))
            for call, over, under in ((open_end, a, c), (short_end, b, d)):
                if under == ZERO:
                    self.raises(NoFunction, call, chain)
                else:
                    self.assertEqual(call(chain), divide(over, under))
            if d != ZERO:
                self.assertEqual(loaded(chain, ZERO), short_end(chain))

    def test_ladders(self):
        source = random.Random(367)
        for _ in range(40):
            ladder = some_ladder(source, source.randint(1, 6), ALL_RUNGS)
            found = loaded(ladder_chain(ladder), ((0, 3), (1,)))
            self.assertEqual(found, ladder_impedance(ladder + (("P", "L", (3, 1)),)))
            self.assertEqual(quotient_at(found, Fraction(5, 3)), ladder_at(ladder + (("S", "L", (3, 1)),), Fraction(5, 3)))

    def test_no_function(self):
        turned = (ZERO, S, ONE, ZERO)
        self.assertEqual(loaded(turned, ((2,), (1,))), ((0, 1), (2,)))
        self.raises(NoFunction, loaded, turned, ZERO)
        self.raises(NoFunction, short_end, turned)
        self.assertEqual(open_end(turned), ZERO)
        self.raises(NoFunction, open_end, series_chain(S))
        self.assertEqual(short_end(series_chain(S)), S)
        self.assertEqual(loaded(series_chain(S), ZERO), S)
        self.assertEqual(short_end(across_chain(S)), ZERO)
        self.raises(NoFunction, loaded, across_chain(S), ((0, -1), (1,)))
        self.assertEqual(loaded(series_chain(S), ((0, -1), (1,))), ZERO)

    def test_degrees(self):
        one, other = compose(SUM_OF_12, ((1, 1), (2,))), SUM_OF_12
        self.assertEqual(loaded(series_chain(ZERO), one), one)
        for call, chain, arguments in ((loaded, series_chain(S), (one,)), (open_end, (other, ONE, S, ZERO), ()),
                                       (short_end, (ONE, other, ZERO, power(1)), ())):
            self.assertEqual(self.raises(TooLarge, call, chain, *arguments).most, 12)
        self.assertEqual(degree(open_end((other, ZERO, ONE, ONE))), 12)
        self.assertEqual(degree(short_end((ZERO, other, ONE, ONE))), 12)
        self.assertEqual(degree(loaded(series_chain(S), ((1,), power(11)[0]))), 12)

    def test_errors(self):
        for value, index in BAD_CHAINS:
            self.assertEqual(self.raises(BadChain, loaded, value, ONE).index, index)
            self.assertEqual(self.raises(BadChain, loaded, value, None).index, index)
        for value in BAD_FUNCTIONS:
            self.raises(BadFunction, loaded, IDENTITY, value)
            self.raises(BadFunction, loaded, (ZERO, S, ONE, ZERO), value)


class Positive(CoilTest):

    def test_values(self):
        """Of a network p, t and p t - q q are not negative at positive ratios."""
        source = random.Random(401)
        for _ in range(40):
            four = impedances_of(network_chain(some_joined_network(source), 1, 2))
            for place in (Fraction(1, 5), Fraction(1), Fraction(7, 2)):
                p, q, r, t = [quotient_at(one, place) for one in four]
                self.assertEqual(q, r)
                self.assertGreaterEqual(min(p, t, p * t - q * q), 0)

    def test_great_numbers(self):
        parts = (("R", 1, 2, (LIMIT, 1)), ("C", 2, 0, (1, LIMIT)))
        self.assertEqual(network_chain((3, parts), 1, 2), (((1, 1), (1,)), ((LIMIT,), (1,)), ((0, 1), (LIMIT,)), ONE))


if __name__ == "__main__":
    unittest.main()
