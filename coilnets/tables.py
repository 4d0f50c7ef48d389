"""Tables of admittances of networks, for all nodes and for some of them."""

from coilnets.errors import NoFunction
from coilnets.minors import arms_among, minor_polynomials
from coilnets.quotients import quotient
from coilnets.wiring import nodes_joined_to


def table_for(network, terminals):
    """The rows of functions that tell the currents sent into terminals by the potentials of these."""
    many = network[0]
    joined = [nodes_joined_to(network, terminal) for terminal in terminals]
    nodes = [node for node in range(many) if any([node in found for found in joined])]
    inner = [node for node in nodes if node not in terminals]
    arms = arms_among(network, nodes)
    kept, bottom = _greatest_minor(many, arms, inner)
    # Potentials of the inner nodes that are left may be chosen, as there may be more than one way; the currents into
    # the terminals must not depend on the choice, nor the terminals on each other for there to be a way.
    left = [node for node in inner if node not in kept]
    cuts = [(1, kept + [one], kept + [other]) for one in left + list(terminals) for other in terminals]
    tops = minor_polynomials(many, arms, cuts)
    free = len(left) * len(terminals)
    if any(tops[:free]):
        raise NoFunction()
    functions = [quotient(top, bottom) for top in tops[free:]]
    return tuple([tuple(functions[at:at + len(terminals)]) for at in range(0, len(functions), len(terminals))])


def _greatest_minor(many, arms, inner):
    """As many inner nodes as there are with a minor that is not 0, and this minor."""
    for kept in _choices(inner):
        minor = minor_polynomials(many, arms, [(1, kept, kept)])[0]
        if minor:
            break
    # The minor of no nodes is not 0.
    return kept, minor


def _choices(things):
    """All lists of some of the things, the longest first."""
    answer = [[]]
    for thing in things:
        answer = answer + [chosen + [thing] for chosen in answer]
    return sorted(answer, key=len, reverse=True)
