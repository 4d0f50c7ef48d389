"""Counting roots of polynomials of any degree: chains of remainders by C. Sturm, and the table of E. Routh."""

from coilnets.polys import common_divisor, content, derivative, exact_quotient, primitive, value_over
from coilnets.remainders import negative_remainder


def sturm_chain(polynomial):
    """The chain that tells the number of different roots of a polynomial that is not 0."""
    # Without its multiple roots a polynomial is never 0 together with its derivative, also not at a bound.
    simple = exact_quotient(primitive(polynomial), common_divisor(polynomial, derivative(polynomial)))
    return _chain(simple, derivative(simple))


def roots_in(chain, low, high):
    """The number of different roots above low and up to high, by the chain; None is no bound."""
    if low is not None and high is not None and low[0] * high[1] >= high[0] * low[1]:
        return 0
    return _sign_changes(chain, low, -1) - _sign_changes(chain, high, 1)


def roots_between(polynomial, low, high):
    return roots_in(sturm_chain(polynomial), low, high)


def jumps(top, bottom):
    """How often top / bottom jumps up through all bounds along all numbers, less how often it jumps down."""
    return roots_in(_chain(bottom, top), None, None)


def is_nowhere_negative(polynomial):
    """Whether a polynomial is not negative for any number from 0 on."""
    if not polynomial:
        return True
    return polynomial[-1] > 0 and _positive_odd_roots(polynomial) == 0


def has_left_roots(polynomial):
    """Whether all roots of a polynomial that is not 0 have negative real parts."""
    falling = list(polynomial[::-1])
    if falling[0] < 0:
        falling = [-coefficient for coefficient in falling]
    return _is_routh_positive(falling[::2], falling[1::2])


def _chain(first, second):
    chain = [first]
    following = second
    while following:
        chain.append(following)
        following = negative_remainder(chain[-2], chain[-1])
    return chain


def _sign_changes(chain, bound, side):
    """The changes of sign along a chain at a bound; without one, as far out as need be on a side, -1 or 1."""
    values = [_value_like(polynomial, bound, side) for polynomial in chain]
    values = [value for value in values if value != 0]
    return len([at for at in range(1, len(values)) if (values[at - 1] < 0) != (values[at] < 0)])


def _value_like(polynomial, bound, side):
    """A number with the sign of the value."""
    power = len(polynomial) - 1
    if bound is not None:
        return value_over(polynomial, bound[0], bound[1], power)
    return -polynomial[-1] if side < 0 and power % 2 == 1 else polynomial[-1]


def _is_routh_positive(upper, lower):
    """Whether the first column of the Routh table with these first two rows is positive; upper begins so."""
    while lower:
        if lower[0] <= 0:
            return False
        padded = lower + [0] * (len(upper) - len(lower))
        below = [lower[0] * upper[at] - upper[0] * padded[at] for at in range(1, len(upper))]
        upper, lower = lower, _with_small_numbers(below)
    return True


def _with_small_numbers(row):
    shared = max(1, content(row))
    return [number // shared for number in row]


def _positive_odd_roots(polynomial):
    """The number of positive roots at which the sign changes."""
    # A root that is there k times is in the first k of these polynomials: counted in turn as 1 and -1, it adds
    # up to 1 if k is odd and to 0 if k is even.
    total = 0
    sign = 1
    while len(polynomial) > 1:
        total += sign * roots_between(polynomial, (0, 1), None)
        sign = -sign
        polynomial = common_divisor(polynomial, derivative(polynomial))
    return total
