"""Promises 10, 12 and 13: potentials, impedances, voltage ratios, values at a ratio."""

import random
import unittest
from fractions import Fraction
from itertools import permutations

from coilnets.errors import BadKind, BadNetwork, BadNode, BadRatio, NoFunction, NotJoined, TooLarge
from coilnets.functions import add, constant, degree, divide, multiply, subtract, value_at
from coilnets.networks import scaled
from coilnets.solving import impedance, potentials, solve_at, voltage_ratio
from coilnets.trees import split_sum, tree_sum
from helpers import BAD_NETWORKS, BAD_NODES, BAD_POSITIVES, LIMIT, ONE, R1, S, ZERO, CoilTest
from helpers import admittance_at, as_fraction, as_ratio, quotient_at, some_functions, some_network

MINUS = ((-1,), (1,))
PLACES = (Fraction(13, 7), Fraction(1, 3))


def row_of(*functions):
    """A network of "Z" parts in a row, from the node 0 on."""
    return len(functions) + 1, tuple([("Z", at, at + 1, one) for at, one in enumerate(functions)])


def some_networks(seed, many, kinds="RLC"):
    source = random.Random(seed)
    for _ in range(many):
        nodes = source.randint(2, 6)
        yield some_network(source, nodes, source.randint(nodes - 1, nodes + 3), kinds)


def tanks(many, *more):
    """Different coils with capacitors side by side, in a row, and further parts behind them."""
    parts = []
    for at in range(many):
        parts += [("L", at, at + 1, (1, at + 1)), ("C", at, at + 1, (1, 1))]
    return many + 1 + len(more), tuple(parts) + tuple(
        [(kind, many + at, many + at + 1, (1, 1)) for at, kind in enumerate(more)])


class Example(CoilTest):

    def test_interface(self):
        network = (3, (("R", 0, 1, (1, 1)), ("L", 1, 2, (1, 1)), ("C", 2, 0, (1, 2))))
        self.assertEqual(impedance(network, 0, 1), ((2, 0, 1), (2, 1, 1)))
        self.assertEqual(potentials(network, 0, 1)[2], ((0, 0, 1), (2, 1, 1)))
        self.assertEqual(voltage_ratio(network, 0, 1, 0, 2), ((2,), (2, 0, 1)))
        self.assertEqual(solve_at(network, 0, 1, (1, 1)), ((3, 4), (0, 1), (1, 4)))


class Potentials(CoilTest):

    def currents_hold(self, network, a, b, found, places=PLACES):
        """Checks the sums of the currents at a few places, where potentials of so low a degree can hardly hide."""
        many, parts = network
        self.assertEqual(found[b], ZERO)
        for place in places:
            sums = [Fraction(0)] * many
            for part in parts:
                near, far = part[1], part[2]
                if found[near] is None:
                    self.assertIsNone(found[far])
                    continue
                voltage = quotient_at(found[near], place) - quotient_at(found[far], place)
                current = voltage * admittance_at(part, place)
                sums[near] += current
                sums[far] -= current
            self.assertEqual(sums, [(at == a) - (at == b) for at in range(many)])

    def test_currents(self):
        """There is exactly one way for resistors, coils and capacitors: an answer, with the right currents."""
        for network in some_networks(51, 40):
            for a, b in list(permutations(range(network[0]), 2))[:6]:
                self.currents_hold(network, a, b, potentials(network, a, b))

    def test_currents_in_any_things(self):
        source = random.Random(52)
        some = [one for one in some_functions(53, 12, 2, 4) if one != ZERO]
        for _ in range(30):
            many, parts = some_network(source, 4, 5)
            network = many, parts[1:] + tuple([("Z",) + part[1:3] + (source.choice(some),) for part in parts[:2]])
            places = [Fraction(source.randint(50, 99), 47) for _ in range(2)]
            self.currents_hold(network, 1, 3, potentials(network, 1, 3), places)

    def test_side_by_side_and_in_a_row(self):
        parts = (("L", 0, 1, (1, 1)), ("C", 1, 0, (1, 1)), ("R", 0, 1, (1, 1)))
        self.assertEqual(impedance((2, parts), 0, 1), ((0, 1), (1, 1, 1)))
        self.assertEqual(impedance((2, (R1,) * 14), 1, 0), ((1,), (14,)))
        row = (4, (("L", 0, 1, (1, 1)), ("C", 2, 1, (1, 1)), ("R", 2, 3, (1, 1))))
        self.assertEqual(potentials(row, 0, 3), (((1, 1, 1), (0, 1)), ((1, 1), (0, 1)), ONE, ZERO))
        self.assertEqual(potentials(row, 3, 0), (ZERO, S, ((1, 0, 1), (0, 1)), ((1, 1, 1), (0, 1))))
        self.assertEqual(potentials(row, 2, 1), (ZERO, ZERO, ((1,), (0, 1)), ((1,), (0, 1))))

    def test_greatest_sizes(self):
        """A cube's edges, eight nodes, also with two parts more; and others of eight nodes and fourteen parts."""
        edges = [(a, a + step) for step in (1, 2, 4) for a in range(8) if not a & step]
        cube = (8, tuple([("R", a, b, (1, 1)) for a, b in edges]))
        self.assertEqual(impedance(cube, 0, 7), ((5,), (6,)))
        self.assertEqual(impedance(cube, 0, 1), ((7,), (12,)))
        self.assertEqual(impedance(cube, 0, 3), ((3,), (4,)))
        source = random.Random(54)
        for _ in range(3):
            network = some_network(source, 8, 14, "RRRRLC")
            self.currents_hold(network, 3, 6, potentials(network, 3, 6))
        ends = [("L", 0, 7, (1, 1)), ("L", 7, 0, (1, 1))]
        coils = (8, tuple([("L", a, b, (LIMIT, LIMIT - 1)) for a, b in edges] + ends))
        self.currents_hold(coils, 0, 7, potentials(coils, 0, 7))

    def test_nodes_that_are_not_joined(self):
        network = (5, (("R", 0, 1, (1, 1)), ("L", 1, 3, (1, 1)), ("R", 2, 4, (2, 1))))
        self.assertEqual(potentials(network, 0, 3), (((1, 1), (1,)), S, None, ZERO, None))
        self.assertEqual(potentials(network, 4, 2), (None, None, ZERO, None, ((2,), (1,))))
        for a, b in ((0, 2), (2, 0), (3, 4), (4, 1)):
            self.raises(NotJoined, potentials, network, a, b)
            self.raises(NotJoined, impedance, network, a, b)
        self.raises(NotJoined, impedance, (2, ()), 0, 1)
        self.raises(NotJoined, potentials, (8, (("C", 6, 7, (1, 1)),)), 0, 7)

    def test_no_potentials(self):
        against = (("Z", 0, 1, ONE), ("Z", 0, 1, MINUS))
        resonance = (("L", 0, 1, (1, 1)), ("Z", 1, 0, ((0, -1), (1,))))
        for parts in (against, resonance, (("R", 1, 0, (2, 1)), ("Z", 0, 1, ((-2,), (1,))))):
            for call in (potentials, impedance):
                self.raises(NoFunction, call, (2, parts), 0, 1)
                self.raises(NoFunction, call, (2, parts), 1, 0)

    def test_more_than_one_way(self):
        """Nothing tells the potential of node 2, but it is joined."""
        loose = (3, (R1, ("Z", 1, 2, S), ("Z", 1, 2, ((0, -1), (1,)))))
        self.raises(NoFunction, potentials, loose, 0, 1)
        self.raises(NoFunction, impedance, loose, 0, 1)
        triangle = (4, (R1, ("Z", 1, 2, ((1,), (1,))), ("Z", 2, 3, ((1,), (1,))), ("Z", 3, 1, ((-2,), (1,)))))
        self.raises(NoFunction, impedance, triangle, 0, 1)

    def test_loose_things_elsewhere(self):
        network = (4, (R1, ("Z", 2, 3, ONE), ("Z", 3, 2, MINUS)))
        self.assertEqual(potentials(network, 0, 1), (ONE, ZERO, None, None))
        self.assertEqual(impedance(network, 1, 0), ONE)
        self.raises(NoFunction, potentials, network, 2, 3)
        self.raises(NotJoined, potentials, network, 2, 0)

    def test_impedance_zero(self):
        network = row_of(S, ((0, -1), (1,)))
        self.assertEqual(impedance(network, 0, 2), ZERO)
        self.assertEqual(potentials(network, 0, 2), (ZERO, ((0, -1), (1,)), ZERO))

    def test_impedance_is_the_potential(self):
        for network in some_networks(55, 15):
            self.assertEqual(impedance(network, 0, 1), potentials(network, 0, 1)[0])
            self.assertEqual(impedance(network, 0, 1), impedance(network, 1, 0))

    def test_degrees(self):
        self.assertEqual(degree(impedance(tanks(6), 0, 6)), 12)
        self.assertEqual(degree(potentials(tanks(6), 6, 0)[6]), 12)
        self.assertEqual(degree(impedance(tanks(6, "R"), 0, 7)), 12)
        for network, last in ((tanks(6, "L"), 7), (tanks(7), 7)):
            self.assertEqual(self.raises(TooLarge, impedance, network, 0, last).most, 12)
            self.assertEqual(self.raises(TooLarge, potentials, network, 0, last).most, 12)
        self.assertEqual(degree(impedance(tanks(6, "L"), 1, 7)), 11)

    def test_degree_of_each_potential(self):
        """Only what is returned may be too large."""
        one = ((1,), (2,) + (0,) * 11 + (1,))
        two = ((0, 1), (3,) + (0,) * 11 + (1,))
        network = row_of(subtract(ZERO, two), two, one)
        self.assertEqual(impedance(network, 0, 3), one)
        self.raises(TooLarge, potentials, network, 0, 3)
        self.raises(TooLarge, impedance, network, 1, 3)
        self.assertEqual(voltage_ratio(network, 0, 3, 2, 3), ONE)
        self.assertEqual(self.raises(TooLarge, voltage_ratio, network, 0, 3, 1, 3).most, 12)

    def test_parts_with_great_degrees(self):
        """What is left after dividing counts, not what is worked with."""
        one = ((1,) * 12 + (2,), (3,) + (0,) * 10 + (1, 5))
        network = (8, tuple([("Z", at // 2, at // 2 + 1, one) for at in range(14)]))
        self.assertEqual(impedance(network, 0, 7), multiply(one, constant((7, 2))))
        self.assertEqual(potentials(network, 0, 7)[3], multiply(one, constant((2, 1))))

    def test_errors(self):
        network = (3, (R1, ("R", 1, 2, (1, 1))))
        for call in (potentials, impedance):
            for value, index in BAD_NETWORKS:
                self.assertEqual(self.raises(BadNetwork, call, value, 0, 1).index, index)
            self.raises(BadNetwork, call, None, None, None)
            for value in BAD_NODES + (3,):
                self.raises(BadNode, call, network, value, 1)
                self.raises(BadNode, call, network, 1, value)
                self.raises(BadNode, call, (2, ()), value, 1)
            for node in range(3):
                self.raises(BadNode, call, network, node, node)
            self.raises(BadNode, call, (1, ()), 0, 0)


class VoltageRatio(CoilTest):

    def test_potentials(self):
        for network in some_networks(56, 15):
            many = network[0]
            a, b = 0, many - 1
            found = potentials(network, a, b)
            for c in range(many):
                for d in range(many):
                    wanted = divide(subtract(found[c], found[d]), found[a])
                    self.assertEqual(voltage_ratio(network, a, b, c, d), wanted)

    def test_edges(self):
        network = (4, (R1, ("L", 1, 2, (1, 1)), ("C", 2, 3, (1, 1))))
        self.assertEqual(voltage_ratio(network, 0, 3, 0, 3), ONE)
        self.assertEqual(voltage_ratio(network, 0, 3, 3, 0), MINUS)
        self.assertEqual(voltage_ratio(network, 0, 3, 1, 1), ZERO)
        self.assertEqual(voltage_ratio(network, 0, 3, 3, 3), ZERO)
        self.assertEqual(voltage_ratio(network, 0, 3, 2, 3), ((1,), (1, 1, 1)))
        self.assertEqual(voltage_ratio(network, 0, 1, 2, 3), ZERO)
        self.assertEqual(voltage_ratio(network, 1, 0, 2, 0), ONE)

    def test_pairs_may_be_exchanged(self):
        for network in some_networks(57, 20):
            nodes = range(network[0])
            for a, b in list(permutations(nodes, 2))[:4]:
                for c, d in list(permutations(nodes, 2))[-4:]:
                    there = multiply(voltage_ratio(network, a, b, c, d), impedance(network, a, b))
                    back = multiply(voltage_ratio(network, c, d, a, b), impedance(network, c, d))
                    self.assertEqual(there, back)

    def test_not_joined(self):
        network = (5, (R1, ("R", 2, 3, (1, 1)), ("R", 0, 4, (1, 1))))
        for a, b, c, d in ((0, 2, 0, 0), (0, 1, 2, 0), (0, 1, 0, 3), (0, 1, 2, 2), (2, 3, 0, 1), (3, 1, 0, 0)):
            self.raises(NotJoined, voltage_ratio, network, a, b, c, d)
        self.assertEqual(voltage_ratio(network, 0, 1, 4, 1), ONE)

    def test_no_function(self):
        against = (3, (("Z", 0, 1, ONE), ("Z", 0, 1, MINUS)))
        self.raises(NoFunction, voltage_ratio, against, 0, 1, 0, 1)
        self.raises(NoFunction, voltage_ratio, against, 0, 1, 0, 0)
        self.raises(NotJoined, voltage_ratio, against, 0, 1, 2, 2)
        self.raises(NotJoined, voltage_ratio, against, 0, 2, 0, 0)
        zero = row_of(ONE, MINUS)
        self.raises(NoFunction, voltage_ratio, zero, 0, 2, 1, 2)
        self.raises(NoFunction, voltage_ratio, zero, 0, 2, 1, 1)
        self.assertEqual(voltage_ratio(zero, 0, 1, 1, 2), ZERO)

    def test_degrees(self):
        self.assertEqual(degree(voltage_ratio(tanks(6, "R"), 0, 7, 6, 7)), 12)
        self.assertEqual(voltage_ratio(tanks(6, "L"), 1, 7, 0, 7), ONE)
        large = (8, tanks(6)[1] + (("Z", 6, 7, ((1, 1), (1,))),))
        self.assertEqual(self.raises(TooLarge, voltage_ratio, large, 0, 7, 6, 7).most, 12)
        self.assertEqual(voltage_ratio(large, 0, 7, 0, 7), ONE)

    def test_errors(self):
        network = (3, (R1,))
        for value, index in BAD_NETWORKS:
            self.assertEqual(self.raises(BadNetwork, voltage_ratio, value, 0, 1, 0, 1).index, index)
        self.raises(BadNetwork, voltage_ratio, (0, ()), None, None, None, None)
        for value in BAD_NODES + (3,):
            for nodes in ((value, 1, 0, 1), (1, value, 0, 1), (0, 1, value, 1), (0, 1, 1, value), (0, 2, value, 1),
                          (0, 2, 1, value), (0, 1, 2, value)):
                self.raises(BadNode, voltage_ratio, network, *nodes)
        self.raises(BadNode, voltage_ratio, network, 1, 1, 0, 1)


class SolveAt(CoilTest):

    def test_values_of_the_potentials(self):
        for network in some_networks(58, 25):
            a, b = 0, network[0] - 1
            found = potentials(network, a, b)
            for ratio in ((1, 1), (2, 3), (7, 2), (1, LIMIT), (LIMIT, LIMIT - 1)):
                self.assertEqual(solve_at(network, a, b, ratio), tuple([value_at(one, ratio) for one in found]))

    def test_not_joined(self):
        network = (5, (R1, ("L", 1, 3, (1, 1)), ("C", 2, 4, (2, 1))))
        self.assertEqual(solve_at(network, 0, 3, (2, 1)), ((3, 1), (2, 1), None, (0, 1), None))
        self.assertEqual(solve_at(network, 4, 2, (2, 1)), (None, None, (0, 1), None, (1, 4)))
        self.raises(NotJoined, solve_at, network, 0, 2, (1, 1))

    def test_any_degree(self):
        """No function is returned here, so that none is too large."""
        network = tanks(7)
        wanted = sum([1 / (Fraction(at + 1, 2) + 2) for at in range(7)])
        self.assertEqual(solve_at(network, 0, 7, (2, 1))[0], as_ratio(wanted))

    def test_power_and_least_sum(self):
        """The powers add up to the potential of a, and no other way to send 1 through the parts has a lesser sum."""
        source = random.Random(59)
        for network in some_networks(60, 20):
            many, parts = network
            a, b, place = 0, many - 1, Fraction(3, 2)
            found = [as_fraction(value) for value in solve_at(network, a, b, (3, 2))]
            flows = [(found[part[1]] - found[part[2]]) * admittance_at(part, place) for part in parts]
            drops = [found[part[1]] - found[part[2]] for part in parts]
            self.assertEqual(sum([flow * drop for flow, drop in zip(flows, drops)]), found[a])
            for _ in range(5):
                sums = sum([flow ** 2 / admittance_at(part, place)
                            for flow, part in zip(self.other_flows(source, network, flows), parts)])
                self.assertLessEqual(found[a], sums)

    def other_flows(self, source, network, flows):
        """Flows with the same sums at the nodes: 1 more is sent through one part and back through all parts."""
        many, parts = network
        lead = source.randrange(len(parts))
        a, b = parts[lead][1:3]
        alike = (many, tuple([("R",) + part[1:3] + ((1, 1),) for part in parts]))
        found = [as_fraction(value) for value in solve_at(alike, a, b, (1, 1))]
        back = [found[part[1]] - found[part[2]] for part in parts]
        return [flow + (at == lead) - less for at, (flow, less) in enumerate(zip(flows, back))]

    def test_does_not_fall(self):
        for network in some_networks(61, 15):
            many, parts = network
            before = as_fraction(solve_at(network, 0, many - 1, (2, 1))[0])
            for at, (kind, a, b, worth) in enumerate(parts):
                raised = Fraction(*worth) / 3 if kind == "C" else Fraction(*worth) * 3
                other = many, parts[:at] + ((kind, a, b, as_ratio(raised)),) + parts[at + 1:]
                self.assertGreaterEqual(as_fraction(solve_at(other, 0, many - 1, (2, 1))[0]), before)

    def test_scaled(self):
        network = tanks(2, "R")
        wanted = [5 * as_fraction(value) for value in solve_at(network, 0, 3, (2, 1))]
        found = solve_at(scaled(network, (5, 1), (3, 1)), 0, 3, (6, 1))
        self.assertEqual([as_fraction(value) for value in found], wanted)

    def test_errors(self):
        network = (3, (R1,))
        things = (3, (R1, ("Z", 0, 1, ONE)))
        for value, index in BAD_NETWORKS:
            self.assertEqual(self.raises(BadNetwork, solve_at, value, 0, 1, (1, 1)).index, index)
        self.raises(BadNetwork, solve_at, None, None, None, None)
        for value in BAD_NODES + (3,):
            self.raises(BadNode, solve_at, network, value, 1, (1, 1))
            self.raises(BadNode, solve_at, network, 1, value, None)
        self.raises(BadNode, solve_at, network, 0, 0, None)
        for value in BAD_POSITIVES:
            for a, b in ((0, 1), (0, 2)):
                self.raises(BadRatio, solve_at, network, a, b, value)
                self.raises(BadRatio, solve_at, things, a, b, value)
        self.raises(NotJoined, solve_at, network, 0, 2, (1, 1))
        self.raises(NotJoined, solve_at, things, 0, 2, (1, 1))
        self.raises(BadKind, solve_at, things, 0, 1, (1, 1))
        self.raises(BadKind, solve_at, (4, (R1, ("Z", 2, 3, ONE))), 0, 1, (1, 1))


class SplitSumByTreeSum(CoilTest):

    def test_impedance(self):
        for network in some_networks(62, 25):
            for a, b in list(permutations(range(network[0]), 2))[:5]:
                wanted = divide(split_sum(network, a, b), tree_sum(network))
                self.assertEqual(impedance(network, a, b), wanted)

    def test_things(self):
        some = [one for one in some_functions(63, 9, 1, 5) if one != ZERO]
        for at in range(len(some) - 4):
            worths = some[at:at + 5]
            ends = ((0, 1), (0, 2), (1, 2), (1, 3), (3, 2))
            network = (4, tuple([("Z", *pair, worth) for pair, worth in zip(ends, worths)]))
            self.assertEqual(multiply(impedance(network, 0, 3), tree_sum(network)), split_sum(network, 0, 3))
            self.assertEqual(add(impedance(network, 0, 3), ZERO), impedance(network, 3, 0))


if __name__ == "__main__":
    unittest.main()
