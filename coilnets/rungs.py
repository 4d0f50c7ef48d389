"""Which values are ladders, the error for those that are not, and ladders of coils and capacitors."""

from math import gcd

from coilnets.checks import is_positive_ratio
from coilnets.errors import BadLadder
from coilnets.polys import content, over_number, poly_difference, poly_times_number, times_variable
from coilnets.quotients import inverse, plus, turned_over
from coilnets.ratios import inverse_ratio, ratio_of
from coilnets.wiring import dual_kind, impedance_of

MOST_RUNGS = 13


def is_rung(value):
    if not isinstance(value, tuple) or len(value) != 3:
        return False
    place, kind, worth = value
    return place in ("S", "P") and kind in ("R", "L", "C") and is_positive_ratio(worth)


def check_ladder(ladder):
    if not isinstance(ladder, tuple) or not 1 <= len(ladder) <= MOST_RUNGS:
        raise BadLadder(None)
    for index, rung in enumerate(ladder):
        if not is_rung(rung):
            raise BadLadder(index)


def rung_impedance(rung):
    _, kind, worth = rung
    return impedance_of((kind, 1, 0, worth))


def rungs_impedance(ladder):
    """The impedance of rungs, the first of which stands at the input."""
    found = rung_impedance(ladder[-1])
    for rung in reversed(ladder[:-1]):
        ahead = rung_impedance(rung)
        if rung[0] == "S":
            found = plus(ahead, found)
        else:
            found = inverse(plus(inverse(ahead), inverse(found)))
    return found


def far_rungs(one):
    """The coils in series and capacitors across, by turns, with this impedance, which is lossless and not 0."""
    return _far_rungs_and_rest(one)[0]


def far_rungs_with_resistor(one):
    """The same with a resistor behind them, for an impedance that is so, and is not that of a resistor alone."""
    rungs, (top, bottom) = _far_rungs_and_rest(one)
    place = "P" if rungs[-1][0] == "S" else "S"
    return rungs + ((place, "R", ratio_of(top[0], bottom[0])),)


def near_rungs(one):
    """The capacitors in series and coils across, by turns, with this impedance, which is lossless and not 0."""
    turned_rungs = far_rungs(turned_over(one))
    return tuple([(place, dual_kind(kind), inverse_ratio(worth)) for place, kind, worth in turned_rungs])


def _far_rungs_and_rest(one):
    """The coils and capacitors by turns, and what is left as top and bottom: 0, all bounds or a ratio."""
    rungs = []
    top, bottom = one
    while top and bottom and len(top) != len(bottom):
        if len(top) > len(bottom):
            rungs.append(("S", "L", ratio_of(top[-1], bottom[-1])))
            top, bottom = _without_far_pole(top, bottom)
        else:
            rungs.append(("P", "C", ratio_of(bottom[-1], top[-1])))
            bottom, top = _without_far_pole(bottom, top)
    return tuple(rungs), (top, bottom)


def _without_far_pole(one, other):
    """Two polynomials with the quotient one / other - k s, whose degree is less than that of one."""
    less = poly_difference(poly_times_number(one, other[-1]), poly_times_number(times_variable(other), one[-1]))
    under = poly_times_number(other, other[-1])
    shared = gcd(content(less), content(under))
    return over_number(less, shared), over_number(under, shared)
