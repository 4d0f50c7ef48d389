"""Arithmetic with functions of any degree, with integers of any size."""

from math import gcd

from coilnets.errors import NoFunction, TooLarge
from coilnets.polys import coefficient_at, common_divisor, content, exact_quotient, over_number, poly_difference
from coilnets.polys import poly_product, poly_sum, poly_times_number, times_variable, value_over
from coilnets.ratios import ratio_of

MOST_DEGREE = 12
ZERO = ((), (1,))
ONE = ((1,), (1,))


def quotient(top, bottom):
    """The function top / bottom in its one form."""
    if not bottom:
        raise NoFunction()
    shared = common_divisor(top, bottom)
    top, bottom = exact_quotient(top, shared), exact_quotient(bottom, shared)
    number = gcd(content(top), content(bottom))
    if bottom[-1] < 0:
        number = -number
    return over_number(top, number), over_number(bottom, number)


def degree_of(one):
    return max(len(one[0]), len(one[1])) - 1


def limited(one):
    """A function that is about to be returned."""
    if degree_of(one) > MOST_DEGREE:
        raise TooLarge(MOST_DEGREE)
    return one


def all_limited(functions):
    """A tuple of functions that are about to be returned."""
    return tuple([limited(one) for one in functions])


def constant_of(ratio):
    return quotient((ratio[0],) if ratio[0] != 0 else (), (ratio[1],))


def plus(one, other):
    top = poly_sum(poly_product(one[0], other[1]), poly_product(other[0], one[1]))
    return quotient(top, poly_product(one[1], other[1]))


def minus(one, other):
    top = poly_difference(poly_product(one[0], other[1]), poly_product(other[0], one[1]))
    return quotient(top, poly_product(one[1], other[1]))


def negative(one):
    return poly_times_number(one[0], -1), one[1]


def times(one, other):
    return quotient(poly_product(one[0], other[0]), poly_product(one[1], other[1]))


def over(one, other):
    return quotient(poly_product(one[0], other[1]), poly_product(one[1], other[0]))


def inverse(one):
    return quotient(one[1], one[0])


def echo_function(one):
    """The function (Z - 1) / (Z + 1) for a function Z."""
    return quotient(poly_difference(one[0], one[1]), poly_sum(one[0], one[1]))


def times_s(one):
    return quotient(times_variable(one[0]), one[1])


def over_s(one):
    return quotient(one[0], times_variable(one[1]))


def value_of(one, ratio):
    """The value where s is a ratio, None at a pole."""
    number, under = ratio
    power = degree_of(one)
    below = value_over(one[1], number, under, power)
    if below == 0:
        return None
    return ratio_of(value_over(one[0], number, under, power), below)


def inserted(one, other):
    """The function one with other in the place of s."""
    power = degree_of(one)
    return quotient(_inserted_over(one[0], other, power), _inserted_over(one[1], other, power))


def turned_over(one):
    """The function one with 1 / s in the place of s."""
    return inserted(one, ((1,), (0, 1)))


def _inserted_over(polynomial, other, power):
    """A polynomial with other in the place of s, times the bottom of other to a power."""
    total = ()
    factor = (1,)
    for at in reversed(range(power + 1)):
        term = poly_times_number(factor, coefficient_at(polynomial, at))
        total = poly_sum(poly_product(total, other[0]), term)
        factor = poly_product(factor, other[1])
    return total
