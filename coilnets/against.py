"""Points that show that a function is not positive real."""

from coilnets.axis import is_positive_real, real_top
from coilnets.checks import check_function, is_ratio
from coilnets.errors import BadPoint
from coilnets.polys import coefficient_at, poly_sum, value_over
from coilnets.quotients import degree_of, inserted
from coilnets.ratios import ratio_of
from coilnets.sturm import has_left_roots, is_nowhere_negative, roots_in, sturm_chain


def point_against(function):
    """A point with positive x at which the real part of the value is negative, None if there is none."""
    check_function(function)
    if is_positive_real(function):
        return None
    # A line is told by its x. With low the function is not yet positive real to the right of the line, with high it
    # is. As low and high draw near to each other, a line between them meets points of the kind that is sought.
    low, high = (0, 1), None
    while True:
        middle = _between(low, high)
        moved = inserted(function, ((middle[0], middle[1]), (middle[1],)))
        top = real_top(moved)
        if not is_nowhere_negative(top):
            return middle, _place_below(top)
        if has_left_roots(poly_sum(moved[0], moved[1])):
            high = middle
        else:
            low = middle


def shows_against(function, value):
    """Whether a value is a point with positive x at which the real part of the value is negative."""
    check_function(function)
    if not _is_point(value) or value[0][0] <= 0:
        return False
    found = _value_there(function, value)
    return found is not None and found[0][0] < 0


def value_at_point(function, point):
    """The real part and the other part of the value at a point, None at a pole."""
    check_function(function)
    if not _is_point(point):
        raise BadPoint()
    return _value_there(function, point)


def _is_point(value):
    return isinstance(value, tuple) and len(value) == 2 and is_ratio(value[0]) and is_ratio(value[1])


def _value_there(function, point):
    (x_number, x_under), (y_number, y_under) = point
    x, y, under = x_number * y_under, y_number * x_under, x_under * y_under
    power = degree_of(function)
    top_real, top_other = _parts_over(function[0], x, y, under, power)
    real, other = _parts_over(function[1], x, y, under, power)
    size = real * real + other * other
    if size == 0:
        return None
    return (ratio_of(top_real * real + top_other * other, size), ratio_of(top_other * real - top_real * other, size))


def _parts_over(polynomial, x, y, under, power):
    """The parts of the value at (x + i y) / under, times under to a power that is not below the degree."""
    real, other = 0, 0
    factor = 1
    for at in reversed(range(power + 1)):
        real, other = real * x - other * y + coefficient_at(polynomial, at) * factor, real * y + other * x
        factor = factor * under
    return real, other


def _between(low, high):
    """A ratio between two, or a greater one than low if there is no high."""
    if high is None:
        return (1, 1) if low == (0, 1) else (2 * low[0], 1)
    return ratio_of(low[0] * high[1] + high[0] * low[1], 2 * low[1] * high[1])


def _place_below(polynomial):
    """A ratio at whose square a polynomial is negative; there is one."""
    chain = sturm_chain(polynomial)
    gaps = _first_gaps(chain)
    under = 1
    while True:
        for gap in gaps:
            for number in gap:
                if value_over(polynomial, number * number, under * under, len(polynomial)) < 0:
                    return ratio_of(number, under)
        under = 2 * under
        halves = []
        for low, high in gaps:
            halves += [(2 * low, low + high), (low + high, 2 * high)]
        # Each stretch where the polynomial is negative, but for the one beyond all roots, ends at a root.
        gaps = [gap for gap in halves if roots_in(chain, _square_of(gap[0], under), _square_of(gap[1], under)) > 0]


def _first_gaps(chain):
    """Gaps between 0, 1, 2, 4, 8, .., up to one behind the square roots of all roots."""
    gaps = [(0, 1)]
    while roots_in(chain, _square_of(gaps[-1][0], 1), None) > 0:
        gaps.append((gaps[-1][1], 2 * gaps[-1][1]))
    return gaps


def _square_of(number, under):
    return number * number, under * under
