"""Impedances of resistors with one other kind of part."""

from coilnets.axis import is_lossless_function, takes_turns_at
from coilnets.checks import check_function
from coilnets.errors import BadKind, NotSimple
from coilnets.polys import of_square
from coilnets.quotients import inverse, limited, over_s, times_s, turned_over
from coilnets.ratios import inverse_ratio
from coilnets.rungs import far_rungs, near_rungs


def is_rc(function):
    """Whether a function is the impedance of a network of resistors and capacitors."""
    check_function(function)
    return _is_rc_function(function)


def is_rl(function):
    """Whether a function is the impedance of a network of resistors and coils."""
    check_function(function)
    return _is_rl_function(function)


def as_coils(function):
    """The function s Z(s * s)."""
    check_function(function)
    return limited(_with_coils(function))


def as_capacitors(function):
    """The function Z(s * s) / s."""
    check_function(function)
    return limited(_with_capacitors(function))


def rc_far(function):
    """The ladder of resistors in series and capacitors across, None if there is none."""
    check_function(function)
    return _for_coils(far_rungs(_with_coils(function))) if _has_rc_ladder(function) else None


def rc_near(function):
    """The ladder of capacitors in series and resistors across, None if there is none."""
    check_function(function)
    return _for_coils(near_rungs(_with_coils(function))) if _has_rc_ladder(function) else None


def rl_far(function):
    """The ladder of coils in series and resistors across, None if there is none."""
    check_function(function)
    return _for_capacitors(far_rungs(_with_capacitors(function))) if _has_rl_ladder(function) else None


def rl_near(function):
    """The ladder of resistors in series and coils across, None if there is none."""
    check_function(function)
    return _for_capacitors(near_rungs(_with_capacitors(function))) if _has_rl_ladder(function) else None


def order_of(function):
    """The number of different numbers up to 0 at which a function of one of the two kinds has a pole."""
    check_function(function)
    if not _is_rc_function(function) and not _is_rl_function(function):
        raise NotSimple()
    # All poles, but the one beyond all bounds, are simple and at such numbers.
    return len(function[1]) - 1


def mirrored(function, kind):
    """Another function of the same kind: 1 / Z(1 / s), or 1 / Z(s) for coils and capacitors."""
    check_function(function)
    if kind not in ("RC", "RL", "LC"):
        raise BadKind()
    if not _is_of_kind(function, kind):
        raise NotSimple()
    return limited(inverse(function if kind == "LC" else turned_over(function)))


def _is_rc_function(one):
    return takes_turns_at(one[0], one[1])


def _is_rl_function(one):
    return _is_rc_function(over_s(one))


def _is_of_kind(one, kind):
    if kind == "LC":
        return is_lossless_function(one)
    return _is_rc_function(one) if kind == "RC" else _is_rl_function(one)


def _has_rc_ladder(one):
    return one[0] != () and _is_rc_function(one)


def _has_rl_ladder(one):
    return one[0] != () and _is_rl_function(one)


def _of_square(one):
    return of_square(one[0]), of_square(one[1])


def _with_coils(one):
    """The lossless function with coils in the place of resistors."""
    return times_s(_of_square(one))


def _with_capacitors(one):
    """The lossless function with capacitors in the place of resistors."""
    return over_s(_of_square(one))


def _for_coils(rungs):
    """The rungs with resistors in the place of coils."""
    return tuple([(place, "R" if kind == "L" else kind, worth) for place, kind, worth in rungs])


def _for_capacitors(rungs):
    """The rungs with resistors in the place of capacitors."""
    return tuple([_for_capacitor(rung) for rung in rungs])


def _for_capacitor(rung):
    place, kind, worth = rung
    return (place, "R", inverse_ratio(worth)) if kind == "C" else rung
