"""Functions: quotients of two polynomials in one form."""

from coilnets.checks import check_function, check_polynomial, check_ratio
from coilnets.errors import TooLarge
from coilnets.quotients import MOST_DEGREE, constant_of, degree_of, inserted, inverse, limited, minus, over, plus
from coilnets.quotients import quotient, times, value_of


def function(top, bottom):
    """The function top / bottom of two polynomials."""
    check_polynomial(top)
    check_polynomial(bottom)
    return quotient(top, bottom)


def constant(ratio):
    """The function that is a ratio everywhere."""
    check_ratio(ratio)
    return constant_of(ratio)


def degree(function):
    """The greater one of the degrees of top and bottom."""
    check_function(function)
    return degree_of(function)


def value_at(function, ratio):
    """The value where s is a ratio, None at a pole."""
    check_function(function)
    check_ratio(ratio)
    return value_of(function, ratio)


def add(one, other):
    _check_two(one, other)
    return limited(plus(one, other))


def subtract(one, other):
    _check_two(one, other)
    return limited(minus(one, other))


def multiply(one, other):
    _check_two(one, other)
    return limited(times(one, other))


def divide(one, other):
    _check_two(one, other)
    return limited(over(one, other))


def reciprocal(one):
    check_function(one)
    return inverse(one)


def compose(one, other):
    """The function one with other in the place of s."""
    _check_two(one, other)
    # Degrees multiply here, so an answer that is too large need not be worked out.
    if degree_of(one) * degree_of(other) > MOST_DEGREE:
        raise TooLarge(MOST_DEGREE)
    return inserted(one, other)


def _check_two(one, other):
    check_function(one)
    check_function(other)
