"""Taking poles away from positive real functions, and exchanges that keep such functions so."""

from coilnets.axis import far_limit, is_positive_real, near_limit, split_at_axis
from coilnets.checks import check_function, check_positive_ratio
from coilnets.errors import NoFunction, NotPositive
from coilnets.polys import poly_difference, poly_sum, poly_times_number, times_variable
from coilnets.quotients import echo_function, limited, quotient, value_of


def pole_far(function):
    """The ratio k of the pole beyond all bounds: the function less k s has none."""
    _check_positive(function)
    return far_limit(function)


def pole_near(function):
    """The ratio k of the pole at 0: the function less k / s has none."""
    _check_positive(function)
    return near_limit(function)


def axis_split(function):
    """Two functions with the function as their sum; the first one has just its poles on the axis."""
    _check_positive(function)
    first, second = split_at_axis(function)
    return limited(first), limited(second)


def richards(function, ratio):
    """The function (k Z(s) - s Z(k)) / (k Z(k) - s Z(s)), Z being the function and k the ratio."""
    check_function(function)
    check_positive_ratio(ratio)
    value = value_of(function, ratio)
    if value is None:
        raise NoFunction()
    top, bottom = function
    # All is multiplied by the lower numbers of k and Z(k), and by the bottom of Z.
    by_k = ratio[0] * value[1]
    by_value = ratio[1] * value[0]
    by_both = ratio[0] * value[0]
    by_none = ratio[1] * value[1]
    above = poly_difference(poly_times_number(top, by_k), poly_times_number(times_variable(bottom), by_value))
    below = poly_difference(poly_times_number(bottom, by_both), poly_times_number(times_variable(top), by_none))
    return limited(quotient(above, below))


def echo_of(function):
    """The function (Z - 1) / (Z + 1), Z being the function."""
    check_function(function)
    return echo_function(function)


def from_echo(function):
    """The function (1 + S) / (1 - S), S being the function."""
    check_function(function)
    top, bottom = function
    return quotient(poly_sum(bottom, top), poly_difference(bottom, top))


def _check_positive(function):
    check_function(function)
    if not is_positive_real(function):
        raise NotPositive()
