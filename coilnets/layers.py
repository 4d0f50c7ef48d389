"""Echoes of layers of equal travel time."""

from coilnets.checks import check_positive_ratio, is_integer, is_ratio
from coilnets.errors import BadNumber, BadPieces, BadStep, BadSteps
from coilnets.pieces import check_pieces
from coilnets.polys import poly_sum, poly_times_number, times_variable
from coilnets.quotients import quotient
from coilnets.ratios import ratio_difference, ratio_product, ratio_quotient, ratio_sum
from coilnets.series import polynomial_series, quotient_series

MOST_STEPS = 12


def layer_echo(steps):
    """The echo of steps, a function of the delay through a layer and back."""
    _check_steps(steps)
    top, bottom = _echo(steps)
    return quotient(top, bottom)


def echo_series(steps, many):
    """The first coefficients of the series of the echo."""
    _check_steps(steps)
    if not is_integer(many) or not 1 <= many <= MOST_STEPS:
        raise BadNumber()
    _check_sizes(steps[:-1])
    top, bottom = _echo(steps)
    return polynomial_series(top, bottom, many)


def steps_of(series):
    """The steps, as many, whose echo's series begins so, if all but the last are below 1 in size, else None."""
    _check_steps(series)
    steps = []
    rest = series
    while len(rest) > 1:
        step = rest[0]
        if not _is_small(step):
            return None
        steps.append(step)
        rest = _behind_step(step, rest)
    return tuple(steps) + rest


def steps_of_impedances(pieces):
    """The steps between neighboring impedances."""
    check_pieces(pieces)
    if len(pieces) < 2:
        raise BadPieces(None)
    return tuple([_step_between(pieces[at - 1], pieces[at]) for at in range(1, len(pieces))])


def pieces_of_steps(first, steps):
    """The pieces that begin with a first impedance and have these steps."""
    check_positive_ratio(first)
    _check_steps(steps)
    if len(steps) == MOST_STEPS:
        raise BadSteps(None)
    _check_sizes(steps)
    pieces = [first]
    for number, under in steps:
        pieces.append(ratio_product(pieces[-1], (under + number, under - number)))
    return tuple(pieces)


def _check_steps(value):
    if not isinstance(value, tuple) or not 1 <= len(value) <= MOST_STEPS:
        raise BadSteps(None)
    for index, thing in enumerate(value):
        if not is_ratio(thing):
            raise BadSteps(index)


def _check_sizes(steps):
    if not all([_is_small(step) for step in steps]):
        raise BadStep()


def _is_small(step):
    """Whether a step is below 1 in size."""
    return abs(step[0]) < step[1]


def _echo(steps):
    """The echo of steps as two polynomials; the second one begins with a positive number."""
    top, bottom = (), (1,)
    for number, under in reversed(steps):
        late = times_variable(top)
        top, bottom = _weighed(bottom, number, late, under), _weighed(bottom, under, late, number)
    return top, bottom


def _weighed(one, by_one, other, by_other):
    return poly_sum(poly_times_number(one, by_one), poly_times_number(other, by_other))


def _behind_step(step, series):
    """The series, shorter by one, of what stands behind the first step of a series."""
    bottom = [ratio_difference((1, 1), ratio_product(step, step))]
    bottom += [ratio_difference((0, 1), ratio_product(step, one)) for one in series[1:]]
    return quotient_series(series[1:], bottom, len(series) - 1)


def _step_between(piece, following):
    return ratio_quotient(ratio_difference(following, piece), ratio_sum(following, piece))
