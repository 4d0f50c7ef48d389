"""Where the roots of polynomials are."""

from coilnets.checks import check_polynomial, check_ratio
from coilnets.errors import BadPolynomial
from coilnets.sturm import has_left_roots, is_nowhere_negative, roots_between


def count_roots(polynomial, low, high):
    """The number of different real roots above low and up to high; None is no bound."""
    _check_not_zero(polynomial)
    _check_bound(low)
    _check_bound(high)
    return roots_between(polynomial, low, high)


def is_left(polynomial):
    """Whether all roots have negative real parts."""
    _check_not_zero(polynomial)
    return has_left_roots(polynomial)


def never_negative(polynomial):
    """Whether a polynomial is not negative for any number from 0 on."""
    check_polynomial(polynomial)
    return is_nowhere_negative(polynomial)


def _check_not_zero(polynomial):
    check_polynomial(polynomial)
    if not polynomial:
        raise BadPolynomial()


def _check_bound(value):
    if value is not None:
        check_ratio(value)
