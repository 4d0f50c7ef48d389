"""Potentials in a network."""

from coilnets.checks import check_positive_ratio
from coilnets.errors import BadKind, NoFunction, NotJoined
from coilnets.minors import arms_among, cut_of_potential, minor_numbers, minor_polynomials
from coilnets.polys import poly_difference, value_over
from coilnets.quotients import degree_of, limited, quotient
from coilnets.ratios import ratio_of
from coilnets.wiring import check_network, check_node, check_two_nodes, nodes_joining


def potentials(network, a, b):
    """The potentials of all nodes if 1 is sent from a to b, None for a node that is not joined to b."""
    check_network(network)
    check_two_nodes(network, a, b)
    nodes = nodes_joining(network, a, b)
    bottom, tops = _solution(network, nodes, a, b, nodes)
    found = [limited(quotient(top, bottom)) for top in tops]
    return _for_all_nodes(network, nodes, found)


def impedance(network, a, b):
    """The impedance between two nodes."""
    check_network(network)
    check_two_nodes(network, a, b)
    nodes = nodes_joining(network, a, b)
    bottom, tops = _solution(network, nodes, a, b, [a])
    return limited(quotient(tops[0], bottom))


def voltage_ratio(network, a, b, c, d):
    """The difference of the potentials of c and d, for a and b, divided by that of a and b."""
    check_network(network)
    check_two_nodes(network, a, b)
    check_node(network, c)
    check_node(network, d)
    nodes = nodes_joining(network, a, b)
    if c not in nodes or d not in nodes:
        raise NotJoined()
    _, tops = _solution(network, nodes, a, b, [a, c, d])
    return limited(quotient(poly_difference(tops[1], tops[2]), tops[0]))


def solve_at(network, a, b, ratio):
    """The values of the potentials at a positive ratio."""
    check_network(network)
    check_two_nodes(network, a, b)
    check_positive_ratio(ratio)
    nodes = nodes_joining(network, a, b)
    if any([part[0] == "Z" for part in network[1]]):
        raise BadKind()
    arms = [_arm_at(arm, ratio) for arm in arms_among(network, nodes)]
    numbers = minor_numbers(network[0], arms, _cuts(nodes, a, b, nodes))
    found = [ratio_of(number, numbers[0]) for number in numbers[1:]]
    return _for_all_nodes(network, nodes, found)


def _for_all_nodes(network, nodes, found):
    """What was found for some nodes as a tuple for all nodes."""
    answer = [None] * network[0]
    for node, value in zip(nodes, found):
        answer[node] = value
    return tuple(answer)


def _solution(network, nodes, a, b, wanted):
    """A polynomial that is not 0, and the potentials of the wanted nodes times it."""
    arms = arms_among(network, nodes)
    minors = minor_polynomials(network[0], arms, _cuts(nodes, a, b, wanted))
    if not minors[0]:
        raise NoFunction()
    return minors[0], minors[1:]


def _cuts(nodes, a, b, wanted):
    """The cuts of what the potentials are divided by, and of the potentials of the wanted nodes."""
    others = [node for node in nodes if node != b]
    return [(1, others, others)] + [cut_of_potential(nodes, a, b, node) for node in wanted]


def _arm_at(arm, ratio):
    """An arm with integers, for the value of its impedance at a ratio."""
    a, b, top, bottom = arm
    number, under = ratio
    power = degree_of((top, bottom))
    return a, b, value_over(top, number, under, power), value_over(bottom, number, under, power)
