"""Answers in time: their energies and their first values."""

from coilnets.checks import check_function, is_integer
from coilnets.errors import BadNumber, NotFading, NotProper
from coilnets.polys import backwards, coefficient_at, poly_product
from coilnets.ratios import ratio_of
from coilnets.remainders import divided, inverse_modulo
from coilnets.series import polynomial_series
from coilnets.sturm import has_left_roots

MOST_VALUES = 24


def energy_of(function):
    """The integral of the square of the answer over all times from 0 on."""
    check_function(function)
    top, bottom = function
    if not top:
        return 0, 1
    if len(top) >= len(bottom) or not has_left_roots(bottom):
        raise NotFading()
    return _energy(top, bottom)


def first_values(function, many):
    """The first coefficients of the series in 1 / s."""
    check_function(function)
    if not is_integer(many) or not 1 <= many <= MOST_VALUES:
        raise BadNumber()
    top, bottom = function
    if len(top) > len(bottom):
        raise NotProper()
    padded = top + (0,) * (len(bottom) - len(top))
    return polynomial_series(padded[::-1], bottom[::-1], many)


def _energy(top, bottom):
    # The polynomial X is the one of a degree below that of bottom with X(s) bottom(-s) = top(s) top(-s), but for a
    # multiple of bottom.
    other = backwards(bottom)
    factor, number = inverse_modulo(other, bottom)
    squares = poly_product(top, backwards(top))
    _, rest, more = divided(poly_product(squares, factor), bottom)
    return ratio_of(coefficient_at(rest, len(bottom) - 2), number * more * bottom[-1])
