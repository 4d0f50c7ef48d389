"""Pieces of line of equal length, in the variable of P. Richards."""

from coilnets.checks import check_function, check_positive_ratio, is_function
from coilnets.errors import BadFunction, BadRung
from coilnets.pieces import check_pieces, with_piece, without_piece
from coilnets.quotients import degree_of, limited, quotient, value_of
from coilnets.ratios import ratio_difference, ratio_product, ratio_quotient, ratio_sum
from coilnets.rungs import is_rung

OPEN = ((1,), ())


def line_impedance(pieces, end):
    """The impedance of pieces with an end, a function or None for an open one; None beyond all bounds."""
    check_pieces(pieces)
    if end is not None and not is_function(end):
        raise BadFunction()
    found = OPEN if end is None else end
    for piece in reversed(pieces):
        found = with_piece(piece, found)
    found = _end_of(found)
    return None if found is None else limited(found)


def take_piece(function):
    """The piece and the end that have this impedance, None if there are none."""
    check_function(function)
    return _piece_and_rest(function)


def line_of(function):
    """The pieces, as many as the degree, and the end that have this impedance, None if there are none."""
    check_function(function)
    pieces = []
    end = function
    for degree in reversed(range(degree_of(function))):
        taken = _piece_and_rest(end)
        if taken is None:
            return None
        piece, end = taken
        # Each piece must lower the degree, that of an open end being 0.
        if degree != (0 if end is None else degree_of(end)):
            return None
        pieces.append(piece)
    return (tuple(pieces), end) if _is_end_of_line(end) else None


def exchanged(piece, rung):
    """The rung and the piece behind it that are as good as a rung behind a piece."""
    check_positive_ratio(piece)
    if not is_rung(rung) or rung[:2] not in (("P", "C"), ("S", "L")):
        raise BadRung()
    worth = rung[2]
    if rung[0] == "S":
        behind = ratio_sum(piece, worth)
        return ("P", "C", ratio_quotient(worth, ratio_product(piece, behind))), behind
    behind = ratio_quotient(piece, ratio_sum((1, 1), ratio_product(piece, worth)))
    return ("S", "L", ratio_difference(piece, behind)), behind


def _piece_and_rest(one):
    piece = value_of(one, (1, 1))
    if piece is None or piece[0] <= 0:
        return None
    return piece, _end_of(without_piece(piece, one))


def _end_of(found):
    """An impedance of pieces as a function, or None for an open end."""
    top, bottom = found
    return None if bottom == () else quotient(top, bottom)


def _is_end_of_line(end):
    """Whether an end of the degree 0 is open, 0 or positive."""
    return end is None or end[0] == () or end[0][0] > 0
