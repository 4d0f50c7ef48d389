"""Networks seen from some of their nodes."""

from coilnets.checks import is_function, is_ratio
from coilnets.errors import BadNode, BadTable, BadTerminals, NoFunction, TooManyParts
from coilnets.polys import coefficient_at
from coilnets.quotients import ZERO, all_limited, degree_of, inverse, limited, negative, over, plus, times
from coilnets.ratios import ratio_quotient, ratio_sum
from coilnets.tables import table_for
from coilnets.wiring import MOST_PARTS, check_network, check_node, impedance_of, is_node

MOST_TERMINALS = 5


def table_of(network, terminals):
    """The table of a network for terminals."""
    check_network(network)
    _check_terminals(network, terminals)
    return tuple([all_limited(row) for row in table_for(network, terminals)])


def without_node(network, node):
    """The network in which a node was taken away, with parts between its neighbors in the place of those at it."""
    check_network(network)
    check_node(network, node)
    many, parts = network
    if many == 1:
        raise BadNode()
    kept = [part for part in parts if node not in part[1:3]]
    sums = _admittances_at(network, node)
    whole = _sum_of(sums)
    if whole == ZERO and len(kept) < len(parts):
        raise NoFunction()
    # Where a sum is 0 the impedance would be beyond all bounds: there is no part.
    pairs = [(a, b) for a, b in _pairs(many) if sums[a] != ZERO and sums[b] != ZERO]
    if len(kept) + len(pairs) > MOST_PARTS:
        raise TooManyParts()
    added = [("Z", a, b, limited(over(whole, times(sums[a], sums[b])))) for a, b in pairs]
    return many - 1, tuple([_moved_part(part, node) for part in kept + added])


def reduced_network(network, terminals):
    """The network whose nodes are the terminals, with the same table."""
    rows = table_of(network, terminals)
    pairs = [(a, b) for a, b in _pairs(len(rows)) if rows[a][b] != ZERO]
    return len(rows), tuple([("Z", a, b, inverse(negative(rows[a][b]))) for a, b in pairs])


def resistors_of(table):
    """The network of resistors between its nodes that has a table of ratios, None if there is none."""
    _check_rows(table, is_ratio)
    if not _is_resistive(table):
        raise BadTable(None)
    entries = [(a, b, table[a][b]) for a, b in _pairs(len(table))]
    if any([entry[0] > 0 for _, _, entry in entries]):
        return None
    parts = [("R", a, b, ratio_quotient((-1, 1), entry)) for a, b, entry in entries if entry[0] != 0]
    return len(table), tuple(parts)


def ratios_of(table):
    """A table of functions as one of ratios, None if a function is no ratio."""
    _check_rows(table, is_function)
    if any([degree_of(entry) > 0 for row in table for entry in row]):
        return None
    return tuple([tuple([(coefficient_at(top, 0), bottom[0]) for top, bottom in row]) for row in table])


def _check_terminals(network, terminals):
    if not isinstance(terminals, tuple) or not 1 <= len(terminals) <= MOST_TERMINALS:
        raise BadTerminals(None)
    for index, terminal in enumerate(terminals):
        if not is_node(terminal, network[0]) or terminal in terminals[:index]:
            raise BadTerminals(index)


def _check_rows(table, is_entry):
    """Checks that a table has as many rows as columns, of entries for which the function is_entry is True."""
    if not isinstance(table, tuple) or not 1 <= len(table) <= MOST_TERMINALS:
        raise BadTable(None)
    for index, row in enumerate(table):
        if not isinstance(row, tuple) or len(row) != len(table) or not all([is_entry(entry) for entry in row]):
            raise BadTable(index)


def _is_resistive(table):
    """Whether rows and columns may be exchanged, and each row adds up to 0."""
    if any([table[a][b] != table[b][a] for a, b in _pairs(len(table))]):
        return False
    for row in table:
        total = (0, 1)
        for entry in row:
            total = ratio_sum(total, entry)
        if total[0] != 0:
            return False
    return True


def _pairs(many):
    """The pairs of so many nodes in ascending order, the lesser one first."""
    return [(a, b) for a in range(many) for b in range(a + 1, many)]


def _admittances_at(network, node):
    """For each other node the sum of the admittances between it and a node."""
    many, parts = network
    sums = [ZERO] * many
    for part in parts:
        if node in part[1:3]:
            other = part[1] + part[2] - node
            sums[other] = plus(sums[other], inverse(impedance_of(part)))
    return sums


def _sum_of(functions):
    total = ZERO
    for one in functions:
        total = plus(total, one)
    return total


def _moved_part(part, node):
    """The part after a node was taken away."""
    kind, a, b, worth = part
    return kind, _moved_node(a, node), _moved_node(b, node), worth


def _moved_node(at, node):
    return at - 1 if at > node else at
