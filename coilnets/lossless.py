"""Lossless functions: which they are, and what they do on the axis."""

from coilnets.axis import is_lossless_function, squares_of, takes_turns_at
from coilnets.checks import check_function, check_positive_ratio
from coilnets.errors import NotLossless
from coilnets.polys import backwards, derivative, of_square, poly_difference, poly_product
from coilnets.quotients import quotient, times_s, value_of
from coilnets.ratios import ratio_product
from coilnets.sturm import roots_between


def is_lossless(function):
    """Whether a function is positive real, and is the negative of itself with -s in the place of s."""
    check_function(function)
    return is_lossless_function(function)


def takes_turns(function):
    """Whether a function is lossless, told by the two polynomials of s * s in it."""
    check_function(function)
    squares = squares_of(function)
    return squares is not None and takes_turns_at(squares[0], squares[1])


def reactance_at(function, ratio):
    """The number X with i X as the value at i times a positive ratio, None at a pole."""
    check_function(function)
    check_positive_ratio(ratio)
    return value_of(_reactance_of(function), ratio)


def slope_at(function, ratio):
    """The derivative of X at a positive ratio, None at a pole."""
    check_function(function)
    check_positive_ratio(ratio)
    top, bottom = _reactance_of(function)
    rise = poly_difference(poly_product(derivative(top), bottom), poly_product(top, derivative(bottom)))
    return value_of(quotient(rise, poly_product(bottom, bottom)), ratio)


def turns_between(function, low, high):
    """The numbers of the zeros and of the poles at i w with w above low and up to high."""
    check_function(function)
    check_positive_ratio(low)
    check_positive_ratio(high)
    if function[0] == () or not is_lossless_function(function):
        raise NotLossless()
    low_square, high_square = ratio_product(low, low), ratio_product(high, high)
    zeros, poles = [roots_between(backwards(squares), low_square, high_square) for squares in squares_of(function)]
    return zeros, poles


def _reactance_of(function):
    """The function of w that is X."""
    if not is_lossless_function(function):
        raise NotLossless()
    top, bottom = squares_of(function)
    return times_s(quotient(of_square(backwards(top)), of_square(backwards(bottom))))
