"""Which functions are positive real."""

from coilnets.axis import axis_divisor, has_simple_axis_roots, is_positive_real, real_top, size_on_axis, split_at_axis
from coilnets.axis import squares_of, takes_turns_at
from coilnets.checks import check_function, check_ratio
from coilnets.polys import exact_quotient
from coilnets.quotients import constant_of, limited, minus, quotient
from coilnets.sturm import has_left_roots, is_nowhere_negative


def is_positive(function):
    """Whether a function is positive real."""
    check_function(function)
    return is_positive_real(function)


def passes_poles(function):
    """Whether a function is positive real, told by its poles and by its real part on the axis."""
    check_function(function)
    top, bottom = function
    if len(top) > len(bottom) + 1 or not _has_left_or_axis_roots(bottom):
        return False
    first, _ = split_at_axis(function)
    squares = squares_of(first)
    if squares is None or not takes_turns_at(squares[0], squares[1]):
        return False
    return is_nowhere_negative(real_top(function))


def axis_part(function):
    """The function of X whose value at w * w is the real part of the value at i w."""
    check_function(function)
    return limited(quotient(real_top(function), size_on_axis(function[1])))


def can_lose(function, ratio):
    """Whether a function less a ratio is positive real."""
    check_function(function)
    check_ratio(ratio)
    return is_positive_real(minus(function, constant_of(ratio)))


def _has_left_or_axis_roots(polynomial):
    """Whether no root has a positive real part, and those on the axis are simple."""
    divisor = axis_divisor(polynomial)
    return has_simple_axis_roots(divisor) and has_left_roots(exact_quotient(polynomial, divisor))
