"""Lossless functions as sums of poles."""

from coilnets.axis import far_limit, is_lossless_function, near_limit, squares_of
from coilnets.checks import check_function
from coilnets.errors import NotLossless
from coilnets.polys import backwards, derivative, integer_value
from coilnets.quotients import value_of
from coilnets.ratios import ratio_of
from coilnets.sturm import roots_in, sturm_chain


def tank_parts(function):
    """The limits at the poles beyond all bounds and at 0, and the other poles; None if some square is no ratio."""
    check_function(function)
    if not is_lossless_function(function):
        raise NotLossless()
    top, bottom = squares_of(function)
    squares = _ratio_roots(backwards(bottom))
    if squares is None:
        return None
    slopes = derivative(bottom)
    tanks = [(square, value_of((top, slopes), (-square[0], square[1]))) for square in squares]
    return far_limit(function), near_limit(function), tuple(tanks)


def _ratio_roots(polynomial):
    """The roots above 0 of a polynomial, ascending, whose roots are all simple; None if some are no ratios."""
    # Times the last coefficient, the roots that are ratios are integers.
    scale = abs(polynomial[-1])
    scaled = []
    factor = 1
    for coefficient in reversed(polynomial[:-1]):
        scaled.append(coefficient * factor)
        factor = factor * scale
    last = 1 if polynomial[-1] > 0 else -1
    found = _integer_roots(tuple(scaled[::-1]) + (last,))
    return None if found is None else [ratio_of(root, scale) for root in found]


def _integer_roots(polynomial):
    """The same for roots that are integers."""
    chain = sturm_chain(polynomial)
    beyond = 1
    while roots_in(chain, (beyond, 1), None) > 0:
        beyond = 2 * beyond
    gaps = [(0, beyond)]
    found = []
    while gaps:
        low, high = gaps.pop()
        many = roots_in(chain, (low, 1), (high, 1))
        if many > high - low:
            return None
        if many > 1:
            middle = (low + high) // 2
            gaps += [(middle, high), (low, middle)]
        elif many == 1:
            root = _integer_root_between(polynomial, low, high)
            if root is None:
                return None
            found.append(root)
    return found


def _integer_root_between(polynomial, low, high):
    """The only root, a simple one, above low and up to high; None if it is no integer."""
    last = integer_value(polynomial, high)
    while last != 0 and high - low > 1:
        middle = (low + high) // 2
        value = integer_value(polynomial, middle)
        if value == 0 or (value > 0) == (last > 0):
            high, last = middle, value
        else:
            low = middle
    return high if last == 0 else None
