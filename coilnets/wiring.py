"""Which values are networks, the errors for those that are not, and which nodes are joined."""

from coilnets.checks import is_function, is_integer, is_positive_ratio
from coilnets.errors import BadNetwork, BadNode, NotJoined

MOST_NODES = 8
MOST_PARTS = 14


def is_node(value, many):
    return is_integer(value) and 0 <= value < many


def is_part(value, many):
    """Whether a value is a part between two of so many nodes."""
    if not isinstance(value, tuple) or len(value) != 4:
        return False
    kind, a, b, worth = value
    if not is_node(a, many) or not is_node(b, many) or a == b:
        return False
    if kind == "Z":
        return is_function(worth) and worth[0] != ()
    return kind in ("R", "L", "C") and is_positive_ratio(worth)


def _is_frame(value):
    """Whether a value is a network, but perhaps for the parts."""
    if not isinstance(value, tuple) or len(value) != 2:
        return False
    many, parts = value
    if not is_integer(many) or not 1 <= many <= MOST_NODES:
        return False
    return isinstance(parts, tuple) and len(parts) <= MOST_PARTS


def check_network(network):
    if not _is_frame(network):
        raise BadNetwork(None)
    many, parts = network
    for index, part in enumerate(parts):
        if not is_part(part, many):
            raise BadNetwork(index)


def check_node(network, value):
    if not is_node(value, network[0]):
        raise BadNode()


def check_two_nodes(network, a, b):
    check_node(network, a)
    check_node(network, b)
    if a == b:
        raise BadNode()


def dual_kind(kind):
    """The kind of a capacitor for that of a coil, and the other way round."""
    return "C" if kind == "L" else "L"


def impedance_of(part):
    """The impedance of a part, a function."""
    kind, worth = part[0], part[3]
    if kind == "Z":
        return worth
    number, under = worth
    if kind == "R":
        return (number,), (under,)
    if kind == "L":
        return (0, number), (under,)
    return (under,), (0, number)


def nodes_joined_to(network, node):
    """The nodes that rows of parts join to a node, itself among them, in ascending order."""
    many, parts = network
    joined = [at == node for at in range(many)]
    # Each round but the last one joins one more node at least.
    for _ in range(many):
        for part in parts:
            if joined[part[1]] or joined[part[2]]:
                joined[part[1]] = joined[part[2]] = True
    return [at for at in range(many) if joined[at]]


def nodes_joining(network, a, b):
    """The nodes that rows of parts join to b, a among them."""
    nodes = nodes_joined_to(network, b)
    if a not in nodes:
        raise NotJoined()
    return nodes
