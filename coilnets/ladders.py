"""Ladders: their impedances, their networks, and ladders of coils and capacitors for a function."""

from coilnets.axis import is_lossless_function
from coilnets.checks import check_function
from coilnets.errors import BadKind, TooManyNodes
from coilnets.quotients import limited
from coilnets.ratios import inverse_ratio
from coilnets.rungs import check_ladder, far_rungs, near_rungs, rungs_impedance
from coilnets.wiring import MOST_NODES, dual_kind

MOST_BAND_RUNGS = 6


def ladder_impedance(ladder):
    """The impedance at the input of a ladder."""
    check_ladder(ladder)
    return limited(rungs_impedance(ladder))


def ladder_network(ladder):
    """The network of a ladder, with the input between the nodes 1 and 0."""
    check_ladder(ladder)
    parts = []
    node = 1
    for index, (place, kind, worth) in enumerate(ladder):
        if place == "P" or index == len(ladder) - 1:
            parts.append((kind, node, 0, worth))
        else:
            parts.append((kind, node, node + 1, worth))
            node += 1
    if node + 1 > MOST_NODES:
        raise TooManyNodes()
    return node + 1, tuple(parts)


def far_ladder(function):
    """The ladder of coils in series and capacitors across for a function, None if there is none."""
    check_function(function)
    return far_rungs(function) if _has_ladder(function) else None


def near_ladder(function):
    """The ladder of capacitors in series and coils across for a function, None if there is none."""
    check_function(function)
    return near_rungs(function) if _has_ladder(function) else None


def band_ladder(ladder):
    """The ladder for s + 1 / s in the place of s."""
    check_ladder(ladder)
    if len(ladder) > MOST_BAND_RUNGS or not all([_can_be_banded(rung) for rung in ladder]):
        raise BadKind()
    answer = []
    for place, kind, worth in ladder:
        answer += [(place, kind, worth), (place, dual_kind(kind), inverse_ratio(worth))]
    return tuple(answer)


def _has_ladder(function):
    return function[0] != () and is_lossless_function(function)


def _can_be_banded(rung):
    return rung[:2] in (("S", "L"), ("P", "C"))
