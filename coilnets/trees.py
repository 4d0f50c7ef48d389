"""Sums over the trees and the splits of a network."""

from coilnets.minors import arms_among, minor_polynomials
from coilnets.polys import poly_product
from coilnets.quotients import limited, quotient
from coilnets.wiring import check_network, check_two_nodes


def tree_sum(network):
    """The sum of the products of the admittances over all trees."""
    check_network(network)
    return _minor_without(network, (0,))


def split_sum(network, a, b):
    """The sum of the products of the admittances over all splits for two nodes."""
    check_network(network)
    check_two_nodes(network, a, b)
    return _minor_without(network, (a, b))


def _minor_without(network, left_out):
    """The minor of the table of admittances without some nodes, which is the sum by G. Kirchhoff's theorem."""
    many = network[0]
    nodes = list(range(many))
    arms = arms_among(network, nodes)
    kept = [node for node in nodes if node not in left_out]
    top = minor_polynomials(many, arms, [(1, kept, kept)])[0]
    bottom = (1,)
    for arm in arms:
        bottom = poly_product(bottom, arm[2])
    return limited(quotient(top, bottom))
