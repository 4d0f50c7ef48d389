"""Two-ports told by their chains: made from impedances, ladders and networks, joined, turned and loaded."""

from coilnets.checks import check_function
from coilnets.errors import BadNode, NoFunction, NotJoined
from coilnets.minors import arms_among, cut_of_potential, minor_polynomials
from coilnets.quotients import all_limited, limited, over, plus, quotient, times
from coilnets.rungs import check_ladder, rung_impedance
from coilnets.twoports import chain_across, chain_in_series, chain_product, check_chain, determinant_of
from coilnets.twoports import is_reciprocal_chain, is_symmetric_chain
from coilnets.wiring import check_network, check_two_nodes, nodes_joining


def series_chain(function):
    """The chain of an impedance in series."""
    check_function(function)
    return chain_in_series(function)


def across_chain(function):
    """The chain of an impedance across both lines."""
    check_function(function)
    return chain_across(function)


def cascade(one, other):
    """The chain of one with other behind it."""
    check_chain(one)
    check_chain(other)
    return all_limited(chain_product(one, other))


def ladder_chain(ladder):
    """The chain of the rungs of a ladder, one behind another."""
    check_ladder(ladder)
    found = _rung_chain(ladder[0])
    for rung in ladder[1:]:
        found = chain_product(found, _rung_chain(rung))
    return all_limited(found)


def network_chain(network, i, o):
    """The chain of a network with the input between i and 0, and the output between o and 0."""
    check_network(network)
    check_two_nodes(network, i, o)
    if i == 0 or o == 0:
        raise BadNode()
    nodes = nodes_joining(network, i, 0)
    if o not in nodes:
        raise NotJoined()
    # By C. Jacobi's theorem these are the determinants of the impedances of the two-port: of none of them, of each
    # one but that from the output to the input, and of all, all times the same polynomial.
    none, at_i, across, at_o, every = minor_polynomials(network[0], arms_among(network, nodes), _cuts(nodes, i, o))
    if not none or not across:
        raise NoFunction()
    return all_limited([quotient(top, across) for top in (at_i, every, none, at_o)])


def is_reciprocal(chain):
    """Whether a d - b c is 1."""
    check_chain(chain)
    return is_reciprocal_chain(chain)


def is_symmetric(chain):
    """Whether a chain is reciprocal, and a is d."""
    check_chain(chain)
    return is_symmetric_chain(chain)


def turned_round(chain):
    """The chain with input and output exchanged."""
    check_chain(chain)
    a, b, c, d = chain
    whole = determinant_of(chain)
    return all_limited([over(one, whole) for one in (d, b, c, a)])


def loaded(chain, function):
    """The impedance of the input with an impedance at the output."""
    check_chain(chain)
    check_function(function)
    a, b, c, d = chain
    return limited(over(plus(times(a, function), b), plus(times(c, function), d)))


def open_end(chain):
    """The impedance of the input with nothing at the output."""
    check_chain(chain)
    return limited(over(chain[0], chain[2]))


def short_end(chain):
    """The impedance of the input with the output closed."""
    check_chain(chain)
    return limited(over(chain[1], chain[3]))


def _rung_chain(rung):
    one = rung_impedance(rung)
    return chain_in_series(one) if rung[0] == "S" else chain_across(one)


def _cuts(nodes, i, o):
    others = [node for node in nodes if node != 0]
    inner = [node for node in others if node not in (i, o)]
    potentials = [cut_of_potential(nodes, a, 0, node) for a, node in ((i, i), (i, o), (o, o))]
    return [(1, others, others)] + potentials + [(1, inner, inner)]
