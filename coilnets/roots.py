"""Where the roots of polynomials are."""

from coilnets.checks import check_polynomial, check_ratio
from coilnets.errors import BadPolynomial
from coilnets.polys import common_divisor, content, derivative, exact_quotient, poly_difference
from coilnets.polys import poly_times_number, primitive, value_over


def count_roots(polynomial, low, high):
    """The number of different real roots above low and up to high; None is no bound."""
    _check_not_zero(polynomial)
    _check_bound(low)
    _check_bound(high)
    return _roots_between(polynomial, low, high)


def is_left(polynomial):
    """Whether all roots have negative real parts."""
    _check_not_zero(polynomial)
    falling = list(polynomial[::-1])
    if falling[0] < 0:
        falling = [-coefficient for coefficient in falling]
    return _is_routh_positive(falling[::2], falling[1::2])


def never_negative(polynomial):
    """Whether a polynomial is not negative for any number from 0 on."""
    check_polynomial(polynomial)
    if not polynomial:
        return True
    return polynomial[-1] > 0 and _positive_odd_roots(polynomial) == 0


def _check_not_zero(polynomial):
    check_polynomial(polynomial)
    if not polynomial:
        raise BadPolynomial()


def _check_bound(value):
    if value is not None:
        check_ratio(value)


def _roots_between(polynomial, low, high):
    if low is not None and high is not None and low[0] * high[1] >= high[0] * low[1]:
        return 0
    chain = _sturm_chain(polynomial)
    return _sign_changes(chain, low, -1) - _sign_changes(chain, high, 1)


def _sturm_chain(polynomial):
    # Without its multiple roots a polynomial is never 0 together with its derivative, also not at a bound.
    simple = exact_quotient(primitive(polynomial), common_divisor(polynomial, derivative(polynomial)))
    chain = [simple]
    following = derivative(simple)
    while following:
        chain.append(following)
        following = _negative_remainder(chain[-2], chain[-1])
    return chain


def _negative_remainder(one, other):
    """The remainder of one divided by other, times a negative number."""
    sign = 1 if other[-1] > 0 else -1
    rest = one
    while len(rest) >= len(other):
        ahead = (0,) * (len(rest) - len(other))
        taken = ahead + poly_times_number(other, sign * rest[-1])
        rest = poly_difference(poly_times_number(rest, sign * other[-1]), taken)
    return primitive(poly_times_number(rest, -1))


def _sign_changes(chain, bound, side):
    """The changes of sign along a chain at a bound; without one, as far out as need be on a side, -1 or 1."""
    values = [_value_like(polynomial, bound, side) for polynomial in chain]
    values = [value for value in values if value != 0]
    return len([at for at in range(1, len(values)) if (values[at - 1] < 0) != (values[at] < 0)])


def _value_like(polynomial, bound, side):
    """A number with the sign of the value."""
    power = len(polynomial) - 1
    if bound is not None:
        return value_over(polynomial, bound[0], bound[1], power)
    return -polynomial[-1] if side < 0 and power % 2 == 1 else polynomial[-1]


def _is_routh_positive(upper, lower):
    """Whether the first column of the Routh table with these first two rows is positive; upper begins so."""
    while lower:
        if lower[0] <= 0:
            return False
        padded = lower + [0] * (len(upper) - len(lower))
        below = [lower[0] * upper[at] - upper[0] * padded[at] for at in range(1, len(upper))]
        upper, lower = lower, _with_small_numbers(below)
    return True


def _with_small_numbers(row):
    shared = max(1, content(row))
    return [number // shared for number in row]


def _positive_odd_roots(polynomial):
    """The number of positive roots at which the sign changes."""
    # A root that is there k times is in the first k of these polynomials: counted in turn as 1 and -1, it adds
    # up to 1 if k is odd and to 0 if k is even.
    total = 0
    sign = 1
    while len(polynomial) > 1:
        total += sign * _roots_between(polynomial, (0, 1), None)
        sign = -sign
        polynomial = common_divisor(polynomial, derivative(polynomial))
    return total
