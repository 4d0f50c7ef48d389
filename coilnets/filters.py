"""Ladders of coils and capacitors between two resistors."""

from coilnets.axis import size_on_axis
from coilnets.checks import check_polynomial
from coilnets.errors import NotFilter
from coilnets.polys import backwards, poly_difference, poly_product, poly_sum
from coilnets.quotients import echo_function, limited, quotient
from coilnets.ratios import inverse_ratio, ratio_product, ratio_quotient
from coilnets.rungs import check_ladder, far_rungs_with_resistor, rungs_impedance
from coilnets.sturm import has_left_roots


def gain_of(ladder):
    """The function of w * w that is the power at i w in the last rung, of the greatest power of the source."""
    _check_filter(ladder)
    echo, left = echo_function(rungs_impedance(ladder))
    size = size_on_axis(left)
    # Coils and capacitors keep no power: what does not come back gets to the resistor.
    return limited(quotient(poly_difference(size, size_on_axis(echo)), size))


def echo_polys(ladder):
    """The polynomials (left, echo) with echo / left as the echo of the impedance."""
    _check_filter(ladder)
    echo, left = echo_function(rungs_impedance(ladder))
    return left, echo


def turned_filter(ladder):
    """The ladder, fed from its other end, with a resistor of 1 in the place of the last rung."""
    _check_filter(ladder)
    place, _, size = ladder[-1]
    if place != "P":
        raise NotFilter()
    turned = [_divided_rung(rung, size) for rung in reversed(ladder[:-1])]
    return tuple(turned) + (("P", "R", inverse_ratio(size)),)


def filter_ladder(left, echo):
    """The ladder of coils in series, capacitors across and a resistor that has these echo_polys, None for none."""
    check_polynomial(left)
    check_polynomial(echo)
    if len(left) < 2 or not has_left_roots(left):
        return None
    gap = poly_difference(poly_product(left, backwards(left)), poly_product(echo, backwards(echo)))
    if len(gap) != 1 or gap[0] < 0:
        return None
    return far_rungs_with_resistor((poly_sum(left, echo), poly_difference(left, echo)))


def _check_filter(ladder):
    check_ladder(ladder)
    kinds = [kind for _, kind, _ in ladder]
    if len(kinds) < 2 or kinds[-1] != "R" or "R" in kinds[:-1]:
        raise NotFilter()


def _divided_rung(rung, size):
    """The rung with its impedance divided by a ratio."""
    place, kind, worth = rung
    divided = ratio_quotient(worth, size) if kind == "L" else ratio_product(worth, size)
    return place, kind, divided
