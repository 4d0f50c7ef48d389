"""Which values are pieces of line, the error for those that are not, and what stands behind a piece.

The variable s is that of P. Richards. An impedance is a pair (top, bottom) of polynomials here, which may have common
divisors; bottom is 0 for an open end.
"""

from coilnets.checks import is_positive_ratio
from coilnets.errors import BadPieces
from coilnets.polys import poly_sum, poly_times_number, times_variable

MOST_PIECES = 12


def check_pieces(value):
    if not isinstance(value, tuple) or len(value) > MOST_PIECES:
        raise BadPieces(None)
    for index, thing in enumerate(value):
        if not is_positive_ratio(thing):
            raise BadPieces(index)


def with_piece(piece, end):
    """The impedance w (Z + s w) / (w + s Z) of a piece w with the impedance Z at its far end."""
    return _with_signed_piece(piece, end, 1)


def without_piece(piece, end):
    """The impedance that a piece must have at its far end for an impedance at its input."""
    # The tables with the rows (w, s w w) and (s, w) undo each other, but for a factor, with s and with -s.
    return _with_signed_piece(piece, end, -1)


def _with_signed_piece(piece, end, sign):
    number, under = piece
    top, bottom = end
    straight = number * under
    above = poly_times_number(times_variable(bottom), sign * number * number)
    below = poly_times_number(times_variable(top), sign * under * under)
    return poly_sum(poly_times_number(top, straight), above), poly_sum(poly_times_number(bottom, straight), below)
