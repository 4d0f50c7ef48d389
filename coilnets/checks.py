"""Which values are ratios, polynomials and functions, and the errors for those that are not."""

from math import gcd

from coilnets.errors import BadFunction, BadPolynomial, BadRatio
from coilnets.quotients import quotient

LARGEST = 10 ** 60
MOST_COEFFICIENTS = 13


def is_integer(value):
    return isinstance(value, int) and not isinstance(value, bool)


def _is_limited_integer(value):
    return is_integer(value) and abs(value) <= LARGEST


def is_ratio(value):
    if not isinstance(value, tuple) or len(value) != 2:
        return False
    number, under = value
    if not _is_limited_integer(number) or not _is_limited_integer(under):
        return False
    return under > 0 and gcd(number, under) == 1


def is_positive_ratio(value):
    return is_ratio(value) and value[0] > 0


def is_polynomial(value):
    if not isinstance(value, tuple) or len(value) > MOST_COEFFICIENTS:
        return False
    if not all([_is_limited_integer(coefficient) for coefficient in value]):
        return False
    return not value or value[-1] != 0


def is_function(value):
    if not isinstance(value, tuple) or len(value) != 2:
        return False
    top, bottom = value
    if not is_polynomial(top) or not is_polynomial(bottom) or not bottom:
        return False
    return value == quotient(top, bottom)


def check_ratio(value):
    if not is_ratio(value):
        raise BadRatio()


def check_positive_ratio(value):
    if not is_positive_ratio(value):
        raise BadRatio()


def check_polynomial(value):
    if not is_polynomial(value):
        raise BadPolynomial()


def check_function(value):
    if not is_function(value):
        raise BadFunction()
