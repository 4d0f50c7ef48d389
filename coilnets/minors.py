"""Minors of the table of admittances of a network.

The table has, in the row and the column of a node, the sum of the admittances at it, and in the row of one node and
the column of another one the sum of those between them, negative. An arm is a tuple (a, b, top, bottom) for a part
between a and b with the impedance top / bottom. A cut is a triple (sign, rows, columns) for the determinant of as many
rows as columns of the table, times a sign. All these minors are multiplied by the tops of all arms: then they are
polynomials with integers.
"""

from coilnets.polys import integer_value, poly_product, poly_sum
from coilnets.quotients import degree_of
from coilnets.wiring import impedance_of


def arms_among(network, nodes):
    """The arms of the parts between some nodes, to which no part joins any other node."""
    return [_arm_of(part) for part in network[1] if part[1] in nodes]


def cut_of_potential(nodes, a, b, node):
    """The cut of the potential of one of some joined nodes, for a and b, by Cramer's rule."""
    if node == b:
        return 0, [], []
    rest = [other for other in nodes if other not in (a, b, node)]
    if node == a:
        return 1, rest, rest
    # In the order rest, node, a of both rows and columns, row and column that go are neighbors: the sign is -1.
    return -1, rest + [node], rest + [a]


def _arm_of(part):
    top, bottom = impedance_of(part)
    return part[1], part[2], top, bottom


def minor_polynomials(many, arms, cuts):
    """The minors for some cuts of a network with so many nodes."""
    # Each arm is once in each product of a minor, by its top or its bottom, so that the degrees add up to a bound.
    bound = sum([degree_of(arm[2:]) for arm in arms])
    places = _places_without_zeros([arm[2] for arm in arms], bound + 1)
    values = []
    for place in places:
        arms_there = [(a, b, integer_value(top, place), integer_value(bottom, place)) for a, b, top, bottom in arms]
        values.append(minor_numbers(many, arms_there, cuts))
    return [_polynomial_through(places, [row[at] for row in values]) for at in range(len(cuts))]


def minor_numbers(many, arms, cuts):
    """The same for arms whose tops and bottoms are integers, the tops not 0."""
    scales = [1] * many
    shared = 1
    for a, b, top, _ in arms:
        scales[a] *= top
        scales[b] *= top
        shared *= top
    rows = _scaled_rows(many, arms, scales)
    answer = []
    for sign, at_rows, at_columns in cuts:
        value = sign * shared * _determinant([[rows[at][by] for by in at_columns] for at in at_rows])
        for at in at_rows:
            value //= scales[at]
        answer.append(value)
    return answer


def _scaled_rows(many, arms, scales):
    """The rows of the table, each one times its scale, which makes them integers."""
    rows = [[0] * many for _ in range(many)]
    for a, b, top, bottom in arms:
        for near, far in ((a, b), (b, a)):
            weight = scales[near] // top * bottom
            rows[near][near] += weight
            rows[near][far] -= weight
    return rows


def _determinant(rows):
    """The determinant of rows of integers, by the elimination of E. Bareiss, whose divisions leave nothing."""
    rows = list(rows)
    sign = 1
    last = 1
    for step in range(len(rows)):
        pivots = [at for at in range(step, len(rows)) if rows[at][step] != 0]
        if not pivots:
            return 0
        if pivots[0] != step:
            rows[step], rows[pivots[0]] = rows[pivots[0]], rows[step]
            sign = -sign
        lead = rows[step]
        for at in range(step + 1, len(rows)):
            factor = rows[at][step]
            rows[at] = [(lead[step] * rows[at][by] - factor * lead[by]) // last for by in range(len(rows))]
        last = lead[step]
    return sign * last


def _places_without_zeros(polynomials, many):
    """So many integers at which none of some polynomials is 0."""
    places = []
    place = 1
    while len(places) < many:
        if all([integer_value(polynomial, place) != 0 for polynomial in polynomials]):
            places.append(place)
        place += 1
    return places


def _polynomial_through(places, values):
    """The polynomial with integers, of a degree below their number, with these values at these integers."""
    # Divided differences of a polynomial with integers, at integers, are integers.
    steps = list(values)
    for step in range(1, len(places)):
        for at in reversed(range(step, len(places))):
            steps[at] = (steps[at] - steps[at - 1]) // (places[at] - places[at - step])
    answer = ()
    for place, difference in reversed(list(zip(places, steps))):
        answer = poly_sum(poly_product(answer, (-place, 1)), (difference,))
    return answer
