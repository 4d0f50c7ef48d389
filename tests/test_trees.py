"""Promise 11: sums over trees and splits."""

import random
import unittest
from fractions import Fraction
from itertools import combinations, permutations
from math import prod

from coilnets.errors import BadNetwork, BadNode, TooLarge
from coilnets.functions import degree
from coilnets.trees import split_sum, tree_sum
from helpers import BAD_NETWORKS, BAD_NODES, ONE, R1, S, ZERO, CoilTest
from helpers import admittance_at, power, quotient_at, some_functions, some_network

PLACES = (Fraction(5, 3), Fraction(29, 31), Fraction(200, 7))


def groups(many, parts):
    """The group of each node after joining by parts; None if there is a cycle."""
    group = list(range(many))
    for part in parts:
        one, other = group[part[1]], group[part[2]]
        if one == other:
            return None
        group = [one if at == other else at for at in group]
    return group


def sum_at(network, place, holds):
    """The sum of products over all sets of parts without a cycle whose groups are as they should be."""
    many, parts = network
    total = Fraction(0)
    for size in range(many):
        for chosen in combinations(parts, size):
            group = groups(many, chosen)
            if group is not None and holds(group):
                total += prod([admittance_at(part, place) for part in chosen], start=Fraction(1))
    return total


def is_tree(group):
    return len(set(group)) == 1


def is_split(a, b):
    return lambda group: group[a] != group[b] and set(group) == {group[a], group[b]}


class Example(CoilTest):

    def test_interface(self):
        network = (3, (("R", 0, 1, (1, 1)), ("R", 1, 2, (1, 2)), ("C", 0, 2, (1, 1))))
        self.assertEqual(tree_sum(network), ((2, 3), (1,)))
        self.assertEqual(split_sum(network, 0, 1), ((2, 1), (1,)))


class Sums(CoilTest):

    def agrees(self, network):
        for place in PLACES:
            self.assertEqual(quotient_at(tree_sum(network), place), sum_at(network, place, is_tree))
            for a, b in list(permutations(range(network[0]), 2))[:7]:
                wanted = sum_at(network, place, is_split(a, b))
                self.assertEqual(quotient_at(split_sum(network, a, b), place), wanted)

    def test_all_sets_of_parts(self):
        source = random.Random(71)
        for _ in range(25):
            nodes = source.randint(2, 5)
            self.agrees(some_network(source, nodes, source.randint(nodes - 1, 8)))

    def test_things(self):
        source = random.Random(72)
        some = [one for one in some_functions(73, 12, 1, 5) if one != ZERO]
        for _ in range(8):
            many, parts = some_network(source, 4, 6)
            self.agrees((many, tuple([("Z",) + part[1:3] + (source.choice(some),) for part in parts])))

    def test_nodes_that_are_not_joined(self):
        """No set of parts is a tree; a split may be there if two groups have one of the nodes each."""
        network = (4, (R1, ("L", 2, 3, (1, 1))))
        self.assertEqual(tree_sum(network), ZERO)
        self.assertEqual(split_sum(network, 0, 1), ZERO)
        self.assertEqual(split_sum(network, 0, 2), ((1,), (0, 1)))
        self.assertEqual(split_sum(network, 3, 1), ((1,), (0, 1)))
        self.assertEqual(tree_sum((3, (R1,))), ZERO)
        self.assertEqual(split_sum((3, (R1,)), 0, 1), ZERO)
        self.assertEqual(split_sum((3, (R1,)), 0, 2), ONE)
        self.assertEqual(tree_sum((8, ())), ZERO)
        self.assertEqual(split_sum((8, ()), 0, 7), ZERO)
        self.agrees((5, (R1, R1, ("C", 1, 2, (1, 2)), ("L", 3, 4, (1, 1)))))

    def test_few_nodes(self):
        self.assertEqual(tree_sum((1, ())), ONE)
        self.assertEqual(tree_sum((2, ())), ZERO)
        self.assertEqual(split_sum((2, ()), 1, 0), ONE)
        self.assertEqual(split_sum((2, (R1, ("L", 0, 1, (1, 1)))), 0, 1), ONE)
        self.assertEqual(tree_sum((2, (("R", 0, 1, (2, 3)), ("C", 1, 0, (4, 5)), ("L", 1, 0, (1, 7))))),
                         ((70, 15, 8), (0, 10)))

    def test_sums_that_vanish(self):
        against = (2, (("Z", 0, 1, S), ("Z", 1, 0, ((0, -1), (1,)))))
        self.assertEqual(tree_sum(against), ZERO)
        self.assertEqual(split_sum(against, 0, 1), ONE)
        row = (3, (("Z", 0, 1, ONE), ("Z", 1, 2, ((-1,), (1,)))))
        self.assertEqual(tree_sum(row), ((-1,), (1,)))
        self.assertEqual(split_sum(row, 0, 2), ZERO)

    def test_greatest_sizes(self):
        edges = [(a, a + step) for step in (1, 2, 4) for a in range(8) if not a & step]
        cube = (8, tuple([("R", a, b, (1, 1)) for a, b in edges]))
        self.assertEqual(tree_sum(cube), ((384,), (1,)))
        self.assertEqual(split_sum(cube, 0, 7), ((320,), (1,)))
        doubled = (8, tuple([("C", at // 2, at // 2 + 1, (1, 1)) for at in range(14)]))
        self.assertEqual(tree_sum(doubled), ((0,) * 7 + (128,), (1,)))
        self.assertEqual(split_sum(doubled, 0, 7), ((0,) * 6 + (7 * 64,), (1,)))

    def test_degrees(self):
        parts = [(kind, at, at + 1, (1, 1)) for at in range(6) for kind in "LC"]
        twelve = (8, tuple(parts) + (("R", 6, 7, (1, 1)),))
        self.assertEqual(degree(tree_sum(twelve)), 12)
        thirteen = (8, tuple(parts) + (("R", 6, 7, (1, 1)), ("C", 6, 7, (1, 1))))
        self.assertEqual(self.raises(TooLarge, tree_sum, thirteen).most, 12)
        self.assertEqual(degree(split_sum(thirteen, 6, 7)), 12)
        row = (4, (("Z", 0, 1, power(12)), ("Z", 1, 2, S), R1[:1] + (2, 3, (1, 1))))
        self.assertEqual(split_sum(row, 1, 2), ((1,), power(12)[0]))
        self.assertEqual(self.raises(TooLarge, split_sum, row, 2, 3).most, 12)
        self.assertEqual(tree_sum((3, (("Z", 0, 1, power(12)), ("Z", 1, 2, ((1,), power(12)[0]))))), ONE)
        self.raises(TooLarge, tree_sum, (3, (("Z", 0, 1, power(12)), ("Z", 1, 2, S))))

    def test_errors(self):
        network = (3, (R1,))
        for value, index in BAD_NETWORKS:
            self.assertEqual(self.raises(BadNetwork, tree_sum, value).index, index)
            self.assertEqual(self.raises(BadNetwork, split_sum, value, 0, 1).index, index)
        self.raises(BadNetwork, split_sum, None, None, None)
        for value in BAD_NODES + (3,):
            self.raises(BadNode, split_sum, network, value, 1)
            self.raises(BadNode, split_sum, network, 1, value)
        self.raises(BadNode, split_sum, network, 2, 2)
        self.raises(BadNode, split_sum, (1, ()), 0, 0)


if __name__ == "__main__":
    unittest.main()
