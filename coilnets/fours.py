"""Two-ports told by four other functions, joined by these, and made of few impedances."""

from coilnets.checks import check_function, is_function
from coilnets.errors import BadFour, NoFunction, NotReciprocal, NotSymmetric
from coilnets.quotients import ONE, ZERO, all_limited, constant_of, inverse, limited, minus, over, plus, times
from coilnets.twoports import admittances_from, chain_of_admittances, chain_of_impedances, check_chain, hybrids_from
from coilnets.twoports import impedances_from, is_reciprocal_chain, is_symmetric_chain


def impedances_of(chain):
    """The functions p, q, r, t with V = p I + q K and W = r I + t K, None if there are none."""
    check_chain(chain)
    return _limited_or_none(impedances_from(chain))


def admittances_of(chain):
    """The functions that tell the currents by the voltages, None if there are none."""
    check_chain(chain)
    return _limited_or_none(admittances_from(chain))


def hybrids_of(chain):
    """The functions that tell V and K by I and W, None if there are none."""
    check_chain(chain)
    return _limited_or_none(hybrids_from(chain))


def from_impedances(four):
    """The chain with these impedances."""
    _check_four(four)
    return all_limited(chain_of_impedances(four))


def from_admittances(four):
    """The chain with these admittances."""
    _check_four(four)
    return all_limited(chain_of_admittances(four))


def side_by_side(one, other):
    """The chain whose admittances are the sums of those of two chains."""
    check_chain(one)
    check_chain(other)
    return all_limited(chain_of_admittances(_sums(admittances_from(one), admittances_from(other))))


def in_series(one, other):
    """The chain whose impedances are the sums of those of two chains."""
    check_chain(one)
    check_chain(other)
    return all_limited(chain_of_impedances(_sums(impedances_from(one), impedances_from(other))))


def lattice(one, two):
    """The chain of a bridge with the impedance one straight on, and two from side to side."""
    check_function(one)
    check_function(two)
    half = constant_of((1, 2))
    straight, between = times(half, plus(two, one)), times(half, minus(two, one))
    return all_limited(chain_of_impedances((straight, between, between, straight)))


def arms_of(chain):
    """The two impedances of the lattice that has a symmetric chain."""
    check_chain(chain)
    if not is_symmetric_chain(chain):
        raise NotSymmetric()
    a, _, c, _ = chain
    return all_limited([over(minus(a, ONE), c), over(plus(a, ONE), c)])


def tee_of(chain):
    """The impedances of a star with this chain: to the input, to the output, to the common line."""
    check_chain(chain)
    _check_reciprocal(chain)
    a, _, c, d = chain
    return all_limited([over(minus(a, ONE), c), over(minus(d, ONE), c), inverse(c)])


def pie_of(chain):
    """The impedances of a triangle with this chain: input to output, output to common line, that one to input."""
    check_chain(chain)
    _check_reciprocal(chain)
    a, b, _, d = chain
    if b == ZERO:
        raise NoFunction()
    return b, _quotient_or_none(b, minus(a, ONE)), _quotient_or_none(b, minus(d, ONE))


def _check_four(value):
    if not isinstance(value, tuple) or len(value) != 4:
        raise BadFour(None)
    for index, thing in enumerate(value):
        if not is_function(thing):
            raise BadFour(index)


def _check_reciprocal(chain):
    if not is_reciprocal_chain(chain):
        raise NotReciprocal()


def _limited_or_none(four):
    return None if four is None else all_limited(four)


def _sums(ones, others):
    if ones is None or others is None:
        raise NoFunction()
    return tuple([plus(one, other) for one, other in zip(ones, others)])


def _quotient_or_none(one, other):
    """An impedance, None if it is beyond all bounds."""
    return None if other == ZERO else limited(over(one, other))
