"""Remainders of polynomials with integers of any size."""

from math import gcd

from coilnets.polys import content, over_number, poly_difference, poly_product, poly_sum, poly_times_number, primitive


def divided(one, other):
    """A polynomial, a rest shorter than other, and a number: number * one is polynomial * other + rest."""
    answer, rest, number = (), one, 1
    lead = other[-1]
    while len(rest) >= len(other):
        ahead = (0,) * (len(rest) - len(other))
        answer = poly_sum(poly_times_number(answer, lead), ahead + rest[-1:])
        taken = ahead + poly_times_number(other, rest[-1])
        rest = poly_difference(poly_times_number(rest, lead), taken)
        number = number * lead
    return answer, rest, number


def negative_remainder(one, other):
    """The remainder of one divided by other, times a negative number."""
    _, rest, number = divided(one, other)
    return primitive(poly_times_number(rest, -1 if number > 0 else 1))


def inverse_modulo(one, modulus):
    """A polynomial and a number, not 0: polynomial * one is the number, but for a multiple of modulus.

    The two polynomials have no common divisor but numbers.
    """
    before, rest = modulus, one
    factor_before, factor = (), (1,)
    while len(rest) > 1:
        answer, following, number = divided(before, rest)
        kept = poly_times_number(factor_before, number)
        factor_before, factor = factor, poly_difference(kept, poly_product(answer, factor))
        before, rest = rest, following
        shared = gcd(content(rest), content(factor))
        rest, factor = over_number(rest, shared), over_number(factor, shared)
    return factor, rest[0]
