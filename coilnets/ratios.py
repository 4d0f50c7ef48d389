"""Arithmetic with ratios of any size."""

from math import gcd


def ratio_of(number, under):
    """The ratio that is number divided by under, which is not 0."""
    shared = gcd(number, under)
    if under < 0:
        shared = -shared
    return number // shared, under // shared


def inverse_ratio(ratio):
    """1 divided by a positive ratio."""
    return ratio[1], ratio[0]


def ratio_sum(one, other):
    return ratio_of(one[0] * other[1] + other[0] * one[1], one[1] * other[1])


def ratio_difference(one, other):
    return ratio_of(one[0] * other[1] - other[0] * one[1], one[1] * other[1])


def ratio_product(one, other):
    return ratio_of(one[0] * other[0], one[1] * other[1])


def ratio_quotient(one, other):
    """One ratio divided by another one, which is not 0."""
    return ratio_of(one[0] * other[1], one[1] * other[0])
