"""Functions and the axis of the numbers i w: real parts there, poles there, and what these tell."""

from coilnets.polys import backwards, coefficient_at, common_divisor, exact_quotient, poly_product, poly_sum
from coilnets.polys import poly_times_number, trimmed
from coilnets.quotients import minus, over_s, plus, quotient
from coilnets.ratios import ratio_of
from coilnets.remainders import divided, inverse_modulo
from coilnets.sturm import has_left_roots, is_nowhere_negative, jumps, roots_between


def real_top(one):
    """The polynomial of X = w * w that is the real part at i w times the squared size of the bottom."""
    product = poly_product(one[0], backwards(one[1]))
    return backwards(trimmed(product[::2]))


def size_on_axis(polynomial):
    """The polynomial of X = w * w that is the squared size of a polynomial at i w."""
    return backwards(poly_product(polynomial, backwards(polynomial))[::2])


def is_positive_real(one):
    total = poly_sum(one[0], one[1])
    return total != () and has_left_roots(total) and is_nowhere_negative(real_top(one))


def is_lossless_function(one):
    return squares_of(one) is not None and is_positive_real(one)


def squares_of(one):
    """The two polynomials A and B without common divisors with s A(s * s) / B(s * s) as the function, or None."""
    top, bottom = over_s(one)
    if any(top[1::2]) or any(bottom[1::2]):
        return None
    return top[::2], bottom[::2]


def takes_turns_at(top, bottom):
    """Whether all poles of top / bottom are simple, at numbers up to 0, with positive limits.

    Beyond all bounds it must have a value, one that is not negative. The two polynomials have no common divisors, and
    the last coefficient of bottom is positive.
    """
    if len(top) > len(bottom) or (len(top) == len(bottom) and top[-1] < 0):
        return False
    # The jumps are as many as the degree only if each root of bottom is real and simple, with a positive limit.
    return jumps(top, bottom) == len(bottom) - 1 and roots_between(bottom, (0, 1), None) == 0


def far_limit(one):
    """The ratio k with which one - k s has a value beyond all bounds, if its pole there is simple."""
    top, bottom = one
    return ratio_of(coefficient_at(top, len(bottom)), bottom[-1])


def near_limit(one):
    """The ratio k with which one - k / s has a value at 0, if its pole there is simple."""
    top, bottom = one
    if bottom[0] != 0:
        return 0, 1
    return ratio_of(top[0], bottom[1])


def axis_divisor(polynomial):
    """The greatest polynomial that divides a polynomial, which is not 0, as well with -s in the place of s."""
    return common_divisor(polynomial, backwards(polynomial))


def has_simple_axis_roots(divisor):
    """Whether all roots of an axis_divisor are on the axis, and simple."""
    squares = divisor[1::2] if divisor[0] == 0 else divisor[::2]
    return squares[0] != 0 and roots_between(squares, None, (0, 1)) == len(squares) - 1


def split_at_axis(one):
    """Two functions with the sum one, the first of which has just its poles on the axis and beyond all bounds.

    No pole has a positive real part; those on the axis and beyond all bounds are simple.
    """
    top, bottom = one
    number, under = far_limit(one)
    divisor = axis_divisor(bottom)
    far = quotient(trimmed((0, number)), (under,))
    factor, share = inverse_modulo(exact_quotient(bottom, divisor), divisor)
    _, rest, times_more = divided(poly_product(top, factor), divisor)
    first = plus(far, quotient(rest, poly_times_number(divisor, share * times_more)))
    return first, minus(one, first)
