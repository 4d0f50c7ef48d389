"""Two-ports told by four functions of any degree: which values are chains, the errors for others, and other tables."""

from coilnets.checks import is_function
from coilnets.errors import BadChain, NoFunction
from coilnets.quotients import ONE, ZERO, inverse, minus, negative, over, plus, times


def check_chain(value):
    if not isinstance(value, tuple) or len(value) != 4:
        raise BadChain(None)
    for index, thing in enumerate(value):
        if not is_function(thing):
            raise BadChain(index)
    if determinant_of(value) == ZERO:
        raise BadChain(None)


def determinant_of(four):
    """What belongs to four functions a, b, c, d: a d - b c."""
    a, b, c, d = four
    return minus(times(a, d), times(b, c))


def chain_in_series(one):
    """The chain of an impedance in series."""
    return ONE, one, ZERO, ONE


def chain_across(one):
    """The chain of an impedance, which is not 0, across both lines."""
    return ONE, ZERO, inverse(one), ONE


def chain_product(one, other):
    """The chain of one with other behind it."""
    a, b, c, d = one
    e, f, g, h = other
    top = plus(times(a, e), times(b, g)), plus(times(a, f), times(b, h))
    bottom = plus(times(c, e), times(d, g)), plus(times(c, f), times(d, h))
    return top + bottom


def is_reciprocal_chain(chain):
    return determinant_of(chain) == ONE


def is_symmetric_chain(chain):
    return chain[0] == chain[3] and is_reciprocal_chain(chain)


def impedances_from(chain):
    """The impedances of a chain, None if there are none."""
    a, _, c, d = chain
    if c == ZERO:
        return None
    return over(a, c), over(determinant_of(chain), c), inverse(c), over(d, c)


def admittances_from(chain):
    """The admittances of a chain, None if there are none."""
    a, b, _, d = chain
    if b == ZERO:
        return None
    less = negative(b)
    return over(d, b), over(determinant_of(chain), less), inverse(less), over(a, b)


def hybrids_from(chain):
    """The hybrids of a chain, None if there are none."""
    _, b, c, d = chain
    if d == ZERO:
        return None
    return over(b, d), over(determinant_of(chain), d), inverse(negative(d)), over(c, d)


def chain_of_impedances(four):
    p, q, r, t = four
    # The chain would have q / r as its a d - b c.
    if q == ZERO or r == ZERO:
        raise NoFunction()
    return over(p, r), over(determinant_of(four), r), inverse(r), over(t, r)


def chain_of_admittances(four):
    p, q, r, t = four
    if q == ZERO or r == ZERO:
        raise NoFunction()
    less = negative(r)
    return over(t, less), inverse(less), over(determinant_of(four), less), over(p, less)
