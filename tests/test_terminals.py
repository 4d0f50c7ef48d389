"""Promises 54, 55 and 56: tables of networks for terminals, networks without a node, tables of resistors."""

import itertools
import random
import unittest
from fractions import Fraction

from coilnets.errors import BadNetwork, BadNode, BadTable, BadTerminals, NoFunction, TooLarge, TooManyParts
from coilnets.functions import add, constant, degree, divide, multiply, reciprocal, subtract
from coilnets.networks import part_impedance, triangle_of
from coilnets.solving import impedance
from coilnets.terminals import ratios_of, reduced_network, resistors_of, table_of, without_node
from helpers import BAD_FUNCTIONS, BAD_NETWORKS, BAD_NODES, BAD_RATIOS, LIMIT, ODDITIES, ONE, R1, S, SUM_OF_12, ZERO
from helpers import CoilTest, admittance_at, as_fraction, as_ratio, power, quotient_at, some_functions, some_network
from helpers import sum_of

ONES, NONE = (1, 1), (0, 1)
TWO, MINUS = ((2,), (1,)), ((-1,), (1,))
PLACES = (Fraction(17, 19), Fraction(23, 7))
STAR = (4, (("R", 0, 3, ONES), ("R", 1, 3, ONES), ("R", 2, 3, ONES)))
NO_TUPLES_OF_1_TO_5 = tuple([value for value in ODDITIES if not isinstance(value, tuple) or value == ()]) + (
    [0, 1], {0: 1}, "01", (0,) * 6, (0, 1, 2, 3, 4, 5), (None,) * 6)


def table_at(network, terminals, place):
    """The table at a fraction: the other nodes are taken away, one after another, as far as there are parts."""
    many, parts = network
    rows = [[Fraction(0)] * many for _ in range(many)]
    for part in parts:
        a, b, value = part[1], part[2], admittance_at(part, place)
        for near, far in ((a, b), (b, a)):
            rows[near][near] += value
            rows[near][far] -= value
    for node in range(many):
        if node not in terminals and any(rows[node]):
            rows = [[rows[i][j] - rows[i][node] * rows[node][j] / rows[node][node] for j in range(many)]
                    for i in range(many)]
    return tuple([tuple([rows[i][j] for j in terminals]) for i in terminals])


def table_values(table, place):
    return tuple([tuple([quotient_at(entry, place) for entry in row]) for row in table])


def some_terminals(source, many):
    return tuple(source.sample(range(many), source.randint(1, min(5, many))))


def networks(seed, many, nodes=6, parts=8, kinds="RLC"):
    source = random.Random(seed)
    for _ in range(many):
        size = source.randint(1, nodes)
        if size == 1:
            yield source, (1, ())
        else:
            yield source, some_network(source, size, source.randint(size - 1, parts), kinds)


def with_any_impedances(source, network, ones):
    return network[0], tuple([("Z", a, b, source.choice(ones)) for _, a, b, _ in network[1]])


def outcome(call, *arguments):
    """What a call returns, or the class of its error."""
    try:
        return call(*arguments)
    except (NoFunction, TooLarge, TooManyParts) as error:
        return type(error)


class Example(CoilTest):

    def test_interface(self):
        table = ratios_of(table_of(STAR, (0, 1)))
        self.assertEqual(table, (((1, 2), (-1, 2)), ((-1, 2), (1, 2))))
        self.assertEqual(resistors_of(table), (2, (("R", 0, 1, (2, 1)),)))
        self.assertEqual(without_node(STAR, 3)[1][0], ("Z", 0, 1, ((3,), (1,))))
        self.assertEqual(reduced_network(STAR, (2, 0)), (2, (("Z", 0, 1, ((2,), (1,))),)))


class Table(CoilTest):

    def test_values(self):
        for source, network in networks(541, 60):
            terminals = some_terminals(source, network[0])
            table = table_of(network, terminals)
            self.assertEqual([len(row) for row in table], [len(terminals)] * len(terminals))
            for place in PLACES:
                self.assertEqual(table_values(table, place), table_at(network, terminals, place))

    def test_any_impedances(self):
        ones = [one for one in some_functions(542, 80, 1, 3) if one != ZERO]
        found = 0
        for source, network in networks(543, 60, 5, 6):
            network = with_any_impedances(source, network, ones)
            terminals = some_terminals(source, network[0])
            table = outcome(table_of, network, terminals)
            if table not in (NoFunction, TooLarge):
                try:
                    self.assertEqual(table_values(table, PLACES[0]), table_at(network, terminals, PLACES[0]))
                    found += 1
                except ZeroDivisionError:
                    pass
        self.assertGreater(found, 40)

    def test_two_terminals(self):
        for source, network in networks(544, 40):
            if network[0] > 1:
                a, b = source.sample(range(network[0]), 2)
                one = reciprocal(impedance(network, a, b))
                less = subtract(ZERO, one)
                self.assertEqual(table_of(network, (a, b)), ((one, less), (less, one)))

    def test_all_nodes(self):
        network = (3, (("R", 0, 1, (2, 1)), ("L", 2, 1, (3, 1)), ("C", 0, 2, (5, 1)), ("Z", 1, 0, S)))
        r, l, c, z = [reciprocal(part_impedance(network, at)) for at in range(4)]
        rows = ((sum_of([r, z, c]), subtract(ZERO, add(r, z)), subtract(ZERO, c)),
                (subtract(ZERO, add(r, z)), sum_of([r, z, l]), subtract(ZERO, l)),
                (subtract(ZERO, c), subtract(ZERO, l), add(l, c)))
        for order in itertools.permutations(range(3)):
            wanted = tuple([tuple([rows[i][j] for j in order]) for i in order])
            self.assertEqual(table_of(network, order), wanted)

    def test_order_and_sums(self):
        """Rows and columns may be exchanged, and the rows add up to 0."""
        for source, network in networks(545, 30):
            terminals = some_terminals(source, network[0])
            table = table_of(network, terminals)
            self.assertEqual(table, tuple(zip(*table)))
            for row in table:
                self.assertEqual(sum_of(row), ZERO)

    def test_one_terminal(self):
        for _, network in networks(546, 20):
            for node in range(network[0]):
                self.assertEqual(table_of(network, (node,)), ((ZERO,),))
        self.assertEqual(table_of((1, ()), (0,)), ((ZERO,),))

    def test_nodes_that_are_not_joined(self):
        """They have no effect, also if there are no potentials for them, or more than one way to choose them."""
        beside = (("Z", 3, 4, ONE), ("Z", 3, 4, MINUS), ("R", 5, 6, ONES))
        self.assertEqual(table_of((8, (R1,) + beside), (0, 1)), table_of((2, (R1,)), (0, 1)))
        self.assertEqual(table_of((8, beside), (7, 2, 0)), ((ZERO,) * 3,) * 3)
        self.assertEqual(table_of((8, (R1,) + beside), (1, 5)), ((ZERO, ZERO), (ZERO, ZERO)))
        self.assertEqual(table_of((8, (R1,) + beside), (1, 5, 6))[1], (ZERO, ONE, MINUS))
        self.assertEqual(table_of((8, beside), (3, 4)), ((ZERO, ZERO), (ZERO, ZERO)))

    def test_no_function(self):
        """The potentials of terminals decide those of each other, as their inner node lets no current through."""
        for parts in ((("Z", 0, 2, ONE), ("Z", 1, 2, MINUS)),
                      (("Z", 0, 2, S), ("R", 0, 1, ONES), ("Z", 2, 1, ((0, -1), (1,))))):
            self.raises(NoFunction, table_of, (3, parts), (0, 1))
            self.raises(NoFunction, table_of, (3, parts), (1, 0))
            self.assertEqual(len(table_of((3, parts), (0, 1, 2))), 3)
            one = reciprocal(impedance((3, parts), 2, 0))
            self.assertEqual(table_of((3, parts), (2, 0))[0][1], subtract(ZERO, one))
        # The impedances of a row of parts from 0 to 1 add up to 0, or, with one more, do not.
        row = (("Z", 2, 3, ONE), ("Z", 0, 2, TWO), ("Z", 1, 3, ((-3,), (1,))))
        self.raises(NoFunction, table_of, (4, row), (0, 1))
        self.raises(NoFunction, table_of, (5, row + (("R", 2, 4, ONES),)), (1, 0))
        self.assertEqual(table_of((4, row[:2] + (("R", 1, 3, ONES),)), (0, 1))[0][0], ((1,), (4,)))
        self.raises(NoFunction, table_of, (4, row + (R1,)), (2, 3))
        self.assertEqual(table_of((4, row + (("R", 0, 1, (2, 1)),)), (2, 3))[0][0], TWO)

    def test_more_than_one_way_for_inner_nodes_alone(self):
        """There is one table all the same, if the currents into the terminals do not depend on the choice."""
        self.assertEqual(table_of((3, (R1, ("Z", 0, 2, ONE), ("Z", 0, 2, MINUS))), (0, 1)),
                         ((ONE, MINUS), (MINUS, ONE)))
        self.assertEqual(table_of((4, (R1, ("Z", 0, 2, ONE), ("Z", 0, 2, MINUS), ("Z", 2, 3, S))), (0, 1)),
                         ((ONE, MINUS), (MINUS, ONE)))
        self.assertEqual(table_of((3, (("Z", 0, 2, S), ("Z", 0, 2, ((0, -1), (1,))))), (0,)), ((ZERO,),))
        # The admittances at each of the nodes 2 and 3 add up to 0, not so those of both together.
        parts = (("Z", 2, 3, S), ("Z", 2, 0, ((0, -1), (1,))), ("Z", 3, 1, ((0, -1), (1,))))
        for more in ((("Z", 2, 4, ONE), ("Z", 4, 2, MINUS)), (("Z", 3, 4, ONE), ("Z", 4, 3, MINUS), ("Z", 4, 5, S))):
            self.assertEqual(table_of((6, parts + more), (0, 1)), table_of((4, parts), (0, 1)))
            self.assertEqual(table_of((6, more + parts), (1, 3)), table_of((4, parts), (1, 3)))

    def test_degrees(self):
        for many, fits in ((6, True), (7, False)):
            network = (3, (("Z", 0, 1, reciprocal(power(6))), ("Z", 1, 2, power(many))))
            if fits:
                self.assertEqual(degree(table_of(network, (0, 1, 2))[1][1]), 12)
                self.assertEqual(degree(table_of(network, (0, 2))[0][0]), 12)
            else:
                self.assertEqual(self.raises(TooLarge, table_of, network, (0, 1, 2)).most, 12)
                self.assertEqual(self.raises(TooLarge, table_of, network, (2, 0)).most, 12)
        # The entries off the diagonal are not too large here.
        network = (3, (("Z", 0, 1, SUM_OF_12), ("Z", 1, 2, S)))
        self.assertEqual(self.raises(TooLarge, table_of, network, (0, 1, 2)).most, 12)
        self.assertEqual(self.raises(TooLarge, reduced_network, network, (0, 1, 2)).most, 12)

    def test_errors(self):
        for call in (table_of, reduced_network):
            for value, index in BAD_NETWORKS:
                self.assertEqual(self.raises(BadNetwork, call, value, (0, 1)).index, index)
                self.assertEqual(self.raises(BadNetwork, call, value, None).index, index)
            for value in NO_TUPLES_OF_1_TO_5:
                self.assertIsNone(self.raises(BadTerminals, call, (8, ()), value).index)
            for network in ((2, (R1,)), (8, ())):
                for value in BAD_NODES + (network[0],):
                    self.assertEqual(self.raises(BadTerminals, call, network, (value,)).index, 0)
                    self.assertEqual(self.raises(BadTerminals, call, network, (0, value, None)).index, 1)
                    self.assertEqual(self.raises(BadTerminals, call, network, (1, 0, value)).index, 2)
            for terminals, index in (((0, 0), 1), ((0, 1, 0), 2), ((0, 1, 1, None), 2), ((3, 2, 1, 0, 3), 4),
                                     ((7, 7, 7), 1)):
                self.assertEqual(self.raises(BadTerminals, call, (8, (R1,)), terminals).index, index)
            self.assertIsNone(self.raises(BadTerminals, call, (3, (("Z", 0, 2, ONE), ("Z", 1, 2, MINUS))), ()).index)
        self.assertEqual(len(table_of((8, ()), (4, 3, 2, 1, 0))), 5)


class WithoutNode(CoilTest):

    def test_known(self):
        parts = (("R", 2, 0, ONES), ("L", 3, 1, (2, 1)), ("C", 1, 2, (3, 1)), ("R", 1, 3, (5, 1)), ("Z", 3, 2, S))
        network = (4, parts)
        y = [reciprocal(part_impedance(network, at)) for at in range(5)]
        # Without the node 1 its ends 2 and 3 are the nodes 1 and 2.
        total = sum_of([y[1], y[3], y[2]])
        between = divide(total, multiply(y[2], add(y[1], y[3])))
        self.assertEqual(without_node(network, 1),
                         (3, (("R", 1, 0, ONES), ("Z", 2, 1, S), ("Z", 1, 2, between))))
        moved = tuple([(kind, a - 1, b - 1, worth) for kind, a, b, worth in parts[1:]])
        self.assertEqual(without_node(network, 0), (3, moved))

    def test_star(self):
        """A star becomes the triangle equal to it."""
        source = random.Random(551)
        ones = [one for one in some_functions(551, 60, 2, 4) if one != ZERO]
        for _ in range(20):
            one, two, three = source.sample(ones, 3)
            network = (4, (("Z", 0, 1, one), ("Z", 2, 0, two), ("Z", 0, 3, three)))
            triangle = outcome(triangle_of, one, two, three)
            if triangle is not TooLarge and ZERO not in triangle:
                self.assertEqual(without_node(network, 0), (3, (
                    ("Z", 0, 1, triangle[0]), ("Z", 0, 2, triangle[2]), ("Z", 1, 2, triangle[1]))))

    def test_table_stays(self):
        found = 0
        for source, network in networks(552, 80):
            many = network[0]
            node = source.randrange(many)
            if many == 1:
                self.raises(BadNode, without_node, network, node)
                continue
            try:
                smaller = without_node(network, node)
            except TooManyParts:
                continue
            found += 1
            terminals = some_terminals(source, many)
            terminals = tuple([at for at in terminals if at != node]) or ((node + 1) % many,)
            moved = tuple([at - (at > node) for at in terminals])
            self.assertEqual(table_of(smaller, moved), table_of(network, terminals))
        self.assertGreater(found, 50)

    def test_no_parts(self):
        network = (3, (("R", 0, 2, ONES), ("L", 2, 0, ONES)))
        self.assertEqual(without_node(network, 1), (2, (("R", 0, 1, ONES), ("L", 1, 0, ONES))))
        self.assertEqual(without_node((2, ()), 0), (1, ()))
        self.assertEqual(without_node((8, ()), 7), (7, ()))

    def test_one_end(self):
        self.assertEqual(without_node((2, (R1, R1)), 0), (1, ()))
        self.assertEqual(without_node((3, (R1, ("C", 1, 2, ONES), ("L", 1, 2, ONES))), 2), (2, (R1,)))

    def test_sums_of_0(self):
        both = (("Z", 0, 1, ONE), ("Z", 1, 0, MINUS))
        for parts in (both, both + (("R", 0, 2, ONES),), (("Z", 0, 1, ONE), ("Z", 1, 2, MINUS)),
                      (("Z", 0, 1, ONE), ("Z", 1, 2, ONE), ("Z", 3, 1, ((-1,), (2,))))):
            self.raises(NoFunction, without_node, (4, parts), 1)
        # The admittances of one end alone add up to 0: there is no part to it.
        self.assertEqual(without_node((4, both + (("R", 1, 2, ONES),)), 1), (3, ()))
        self.assertEqual(without_node((4, both + (("R", 1, 2, ONES), ("R", 3, 1, (2, 1)))), 1),
                         (3, (("Z", 1, 2, ((3,), (1,))),)))

    def test_any_impedances(self):
        ones = [one for one in some_functions(553, 60, 1, 2) if one != ZERO] + [ONE, MINUS] * 30
        found = [0, 0]
        for source, network in networks(554, 300, 4, 5):
            if network[0] < 2:
                continue
            network = with_any_impedances(source, network, ones)
            node = source.randrange(network[0])
            at_node = [reciprocal(part[3]) for part in network[1] if node in part[1:3]]
            smaller = outcome(without_node, network, node)
            if smaller is NoFunction:
                self.assertEqual(sum_of(at_node), ZERO)
                found[0] += 1
                continue
            self.assertFalse(at_node and sum_of(at_node) == ZERO)
            if smaller is not TooLarge:
                found[1] += 1
                ends = [at for at in range(network[0]) if at != node]
                moved = tuple(range(len(ends)))
                wanted = outcome(table_of, network, tuple(ends))
                if wanted is not TooLarge:
                    self.assertEqual(outcome(table_of, smaller, moved), wanted)
        self.assertGreater(min(found), 10)

    def test_numbers_of_parts(self):
        """A node with five ends makes ten parts of five."""
        star = tuple([("R", at, 5, ONES) for at in range(5)])
        more = tuple([("C", 0, 6 + at % 2, ONES) for at in range(4)])
        found = without_node((8, more + star), 5)
        self.assertEqual((found[0], len(found[1])), (7, 14))
        self.assertEqual(found[1][:4], tuple([("C", 0, 5 + at % 2, ONES) for at in range(4)]))
        self.assertEqual([part[1:3] for part in found[1][4:]], list(itertools.combinations(range(5), 2)))
        self.assertTrue(all(part[0] == "Z" and part[3] == ((5,), (1,)) for part in found[1][4:]))
        self.raises(TooManyParts, without_node, (8, more + (("C", 0, 7, ONES),) + star), 5)
        self.raises(TooManyParts, without_node, (8, tuple([("R", 0, at, ONES) for at in range(1, 8)])), 0)
        # Two ends of the star cancel: six are left of the parts between.
        cancel = star + (("Z", 0, 5, MINUS),)
        self.assertEqual(len(without_node((8, more + cancel + (("L", 6, 7, ONES),) * 4), 5)[1]), 14)
        self.raises(TooManyParts, without_node, (8, more + (("L", 6, 7, ONES),) * 5 + star), 5)

    def test_order_of_errors(self):
        large = (("Z", 0, 1, SUM_OF_12), ("Z", 0, 2, S), ("Z", 0, 3, power(12)))
        self.assertEqual(self.raises(TooLarge, without_node, (4, large), 0).most, 12)
        many = large + tuple([("R", 0, at, ONES) for at in range(4, 8)])
        self.raises(TooManyParts, without_node, (8, many), 0)
        cancel = (("Z", 1, 0, subtract(ZERO, SUM_OF_12)), ("Z", 0, 1, SUM_OF_12)) + tuple(
            [("Z", 0, at, ONE if at % 2 else MINUS) for at in range(2, 8)])
        self.raises(NoFunction, without_node, (8, cancel), 0)

    def test_greatest_degree(self):
        fits = (3, (("Z", 0, 1, power(6)), ("Z", 0, 2, ((1,), (0,) * 6 + (1,)))))
        self.assertEqual(degree(without_node(fits, 0)[1][0][3]), 12)
        fits = (3, (("Z", 0, 1, power(6)), ("Z", 0, 2, ((1,), (0,) * 7 + (1,)))))
        self.assertEqual(self.raises(TooLarge, without_node, fits, 0).most, 12)

    def test_errors(self):
        for value, index in BAD_NETWORKS:
            self.assertEqual(self.raises(BadNetwork, without_node, value, 0).index, index)
            self.assertEqual(self.raises(BadNetwork, without_node, value, None).index, index)
        for network in ((1, ()), (2, (R1,)), (8, (R1,))):
            for value in BAD_NODES + (network[0],):
                self.raises(BadNode, without_node, network, value)
        self.raises(BadNode, without_node, (1, ()), 0)


class Reduced(CoilTest):

    def test_table(self):
        for source, network in networks(555, 60):
            terminals = some_terminals(source, network[0])
            found = reduced_network(network, terminals)
            self.assertEqual(found[0], len(terminals))
            self.assertTrue(all(part[0] == "Z" and part[1] < part[2] for part in found[1]))
            ends = [part[1:3] for part in found[1]]
            self.assertEqual(ends, sorted(set(ends)))
            order = tuple(range(len(terminals)))
            self.assertEqual(table_of(found, order), table_of(network, terminals))

    def test_parts(self):
        self.assertEqual(reduced_network(STAR, (1, 2, 0)), (3, tuple([("Z", a, b, ((3,), (1,))) for a, b in (
            (0, 1), (0, 2), (1, 2))])))
        self.assertEqual(reduced_network((3, (R1, R1)), (2, 1, 0)), (3, (("Z", 1, 2, ((1,), (2,))),)))
        self.assertEqual(reduced_network((3, (("Z", 0, 1, S), ("Z", 1, 0, ((0, -1), (1,))))), (0, 1)), (2, ()))
        self.assertEqual(reduced_network(STAR, (3,)), (1, ()))
        star = (6, tuple([("L", at, 5, ONES) for at in range(5)]))
        self.assertEqual(len(reduced_network(star, (4, 2, 0, 1, 3))[1]), 10)

    def test_no_function(self):
        parts = (("Z", 0, 2, ONE), ("Z", 1, 2, MINUS))
        self.raises(NoFunction, reduced_network, (3, parts), (0, 1))


def ratio_tables(seed, many):
    """Tables of ratios whose rows and columns may be exchanged, and add up to 0."""
    source = random.Random(seed)
    for _ in range(many):
        size = source.randint(1, 5)
        rows = [[Fraction(0)] * size for _ in range(size)]
        for a, b in itertools.combinations(range(size), 2):
            value = Fraction(source.choice((0, 1, 2, 3, 5, -1 if source.random() < 0.2 else 4)), source.randint(1, 4))
            for near, far in ((a, b), (b, a)):
                rows[near][near] += value
                rows[near][far] -= value
        yield tuple([tuple([as_ratio(entry) for entry in row]) for row in rows])


class Resistors(CoilTest):

    def test_table(self):
        many = [0, 0]
        for table in ratio_tables(561, 200):
            network = resistors_of(table)
            wanted = all(table[a][b][0] <= 0 for a, b in itertools.permutations(range(len(table)), 2))
            self.assertEqual(network is not None, wanted)
            many[wanted] += 1
            if wanted:
                self.assertEqual(network[0], len(table))
                self.assertTrue(all(part[0] == "R" and part[1] < part[2] for part in network[1]))
                ends = [part[1:3] for part in network[1]]
                self.assertEqual(ends, sorted(set(ends)))
                self.assertEqual(ratios_of(table_of(network, tuple(range(len(table))))), table)
        self.assertGreater(min(many), 20)

    def test_networks_with_further_nodes(self):
        """Each table of a network of resistors is that of one without further nodes."""
        for source, network in networks(562, 40, kinds="R"):
            terminals = some_terminals(source, network[0])
            table = ratios_of(table_of(network, terminals))
            found = resistors_of(table)
            self.assertEqual(ratios_of(table_of(found, tuple(range(len(terminals))))), table)
            self.assertEqual([(a, b, constant(worth)) for _, a, b, worth in found[1]],
                             [part[1:] for part in reduced_network(network, terminals)[1]])

    def test_known(self):
        for table, wanted in (
                (((NONE,),), (1, ())), (((NONE, NONE), (NONE, NONE)), (2, ())),
                (((ONES, (-1, 1)), ((-1, 1), ONES)), (2, (("R", 0, 1, ONES),))),
                ((((-1, 1), ONES), (ONES, (-1, 1))), None),
                ((((1, LIMIT), (-1, LIMIT)), ((-1, LIMIT), (1, LIMIT))), (2, (("R", 0, 1, (LIMIT, 1)),))),
                ((((3, 1), (-2, 1), (-1, 1)), ((-2, 1), (2, 1), NONE), ((-1, 1), NONE, ONES)),
                 (3, (("R", 0, 1, (1, 2)), ("R", 0, 2, ONES)))),
                ((((3, 1), (-2, 1), (-1, 1)), ((-2, 1), ONES, ONES), ((-1, 1), ONES, NONE)), None)):
            self.assertEqual(resistors_of(table), wanted, table)

    def test_rows_that_are_not_so(self):
        for table in (((ONES,),), (((-1, 1),),), ((ONES, ONES), (ONES, ONES)), ((ONES, (-1, 1)), (ONES, (-1, 1))),
                      ((ONES, (-1, 1)), ((-1, 1), (2, 1))), (((2, 1), (-1, 1)), ((-1, 1), ONES)),
                      ((NONE, NONE), ((-1, 1), ONES)), ((ONES, (-1, 1)), (NONE, NONE)),
                      # The rows add up to 0, but columns do not.
                      ((ONES, (-1, 1), NONE), (NONE, ONES, (-1, 1)), ((-1, 1), NONE, ONES)),
                      ((ONES, (-1, 1), NONE), ((-1, 1), ONES, NONE), (NONE, NONE, (1, 9))),
                      (((1, 3), (-1, 3)), ((-1, 3), (1, 4)))):
            self.assertIsNone(self.raises(BadTable, resistors_of, table).index, table)

    def test_errors(self):
        fine = ((ONES, (-1, 1)), ((-1, 1), ONES))
        for value in NO_TUPLES_OF_1_TO_5 + ((fine[0],) * 6, [fine[0], fine[1]]):
            self.assertIsNone(self.raises(BadTable, resistors_of, value).index, value)
        for value in ODDITIES + (fine[0][:1], fine[0] + (NONE,), list(fine[0]), (ONES, None), (None, ONES), (ONES, 1)):
            self.assertEqual(self.raises(BadTable, resistors_of, (value, None)).index, 0, value)
            self.assertEqual(self.raises(BadTable, resistors_of, (fine[0], value)).index, 1)
            self.assertEqual(self.raises(BadTable, resistors_of, ((NONE, ONES), value)).index, 1)
        for value in BAD_RATIOS:
            self.assertEqual(self.raises(BadTable, resistors_of, ((value,),)).index, 0)
            self.assertEqual(self.raises(BadTable, resistors_of, (fine[0], (fine[1][0], value))).index, 1)


class Ratios(CoilTest):

    def test_values(self):
        for table in ratio_tables(563, 40):
            functions = tuple([tuple([constant(entry) for entry in row]) for row in table])
            self.assertEqual(ratios_of(functions), table)
        self.assertEqual(ratios_of(((ONE, TWO), (MINUS, ((2,), (3,))))), (((1, 1), (2, 1)), ((-1, 1), (2, 3))))
        self.assertEqual(ratios_of(((ZERO,),)), ((NONE,),))
        self.assertEqual(as_fraction(ratios_of(((((LIMIT,), (LIMIT - 1,)),),))[0][0]), Fraction(LIMIT, LIMIT - 1))

    def test_none(self):
        for one in (S, reciprocal(S), SUM_OF_12, ((1, 1), (2, 1))):
            for at in range(4):
                entries = [ONE] * at + [one] + [ONE] * (3 - at)
                self.assertIsNone(ratios_of((tuple(entries[:2]), tuple(entries[2:]))))
            self.assertIsNone(ratios_of(((one,),)))

    def test_errors(self):
        fine = (ONE, S)
        for value in NO_TUPLES_OF_1_TO_5 + ((fine,) * 6, [fine, fine]):
            self.assertIsNone(self.raises(BadTable, ratios_of, value).index, value)
        for value in ODDITIES + (fine[:1], fine + (ONE,), list(fine), (ONE, None), (None, ONE), (ONE, ONES)):
            self.assertEqual(self.raises(BadTable, ratios_of, (value, None)).index, 0, value)
            self.assertEqual(self.raises(BadTable, ratios_of, (fine, value)).index, 1)
        for value in BAD_FUNCTIONS:
            self.assertEqual(self.raises(BadTable, ratios_of, ((value,),)).index, 0)
            self.assertEqual(self.raises(BadTable, ratios_of, ((S, ONE), (ONE, value))).index, 1)


if __name__ == "__main__":
    unittest.main()
