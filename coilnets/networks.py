"""Networks, their parts, and networks made from others."""

from coilnets.checks import check_function, check_positive_ratio, is_integer
from coilnets.errors import BadNumber
from coilnets.quotients import constant_of, inserted, limited, over, plus, times, turned_over
from coilnets.ratios import inverse_ratio, ratio_product, ratio_quotient
from coilnets.wiring import check_network, dual_kind, impedance_of


def part_impedance(network, index):
    """The impedance of a part."""
    check_network(network)
    parts = network[1]
    if not is_integer(index) or not 0 <= index < len(parts):
        raise BadNumber()
    return impedance_of(parts[index])


def scaled(network, size, speed):
    """The network with part impedances times size, with s divided by speed in the place of s."""
    check_network(network)
    check_positive_ratio(size)
    check_positive_ratio(speed)
    many, parts = network
    return many, tuple([_scaled_part(part, size, speed) for part in parts])


def turned(network):
    """The network with part impedances with 1 / s in the place of s."""
    check_network(network)
    many, parts = network
    return many, tuple([_turned_part(part) for part in parts])


def triangle_of(one, two, three):
    """The impedances of a triangle equal to a star: one to two, two to three, three to one."""
    _check_three(one, two, three)
    total = plus(plus(times(one, two), times(two, three)), times(three, one))
    return limited(over(total, three)), limited(over(total, one)), limited(over(total, two))


def star_of(one, two, three):
    """The impedances of a star equal to a triangle, in the order of triangle_of."""
    _check_three(one, two, three)
    total = plus(plus(one, two), three)
    return _share(three, one, total), _share(one, two, total), _share(two, three, total)


def _scaled_part(part, size, speed):
    kind, a, b, worth = part
    if kind == "Z":
        slower = inserted(worth, ((0, speed[1]), (speed[0],)))
        return kind, a, b, times(slower, constant_of(size))
    if kind == "R":
        return kind, a, b, ratio_product(worth, size)
    if kind == "L":
        return kind, a, b, ratio_quotient(ratio_product(worth, size), speed)
    return kind, a, b, ratio_quotient(worth, ratio_product(size, speed))


def _turned_part(part):
    kind, a, b, worth = part
    if kind == "Z":
        return kind, a, b, turned_over(worth)
    if kind == "R":
        return part
    return dual_kind(kind), a, b, inverse_ratio(worth)


def _check_three(one, two, three):
    check_function(one)
    check_function(two)
    check_function(three)


def _share(one, other, total):
    return limited(over(times(one, other), total))
