"""Promises 44 to 47: pieces of line, what stands behind them, and rungs that change places with them."""

import random
import unittest
from fractions import Fraction

from coilnets.chains import cascade, loaded
from coilnets.errors import BadFunction, BadPieces, BadRatio, BadRung, TooLarge
from coilnets.functions import constant, degree, divide, function, multiply, subtract, value_at
from coilnets.ladders import ladder_impedance
from coilnets.lines import exchanged, line_impedance, line_of, take_piece
from coilnets.lossless import is_lossless
from coilnets.positive import is_positive
from coilnets.removal import echo_of
from coilnets.roots import is_left
from helpers import BAD_FUNCTIONS, BAD_PIECES, BAD_POSITIVES, BAD_RUNGS, LIMIT, LOSSLESS, LOSSLESS_12, NEGATIVES, ODDITIES
from helpers import ONE, POSITIVES, POSITIVE_12, S, SUM_OF_12, ZERO, CoilTest, as_fraction, as_ratio, gap_of
from helpers import product_of, quotient_at, some_functions, some_pieces, some_ratio

ONES = (1, 1)
FINE = tuple([one for one in POSITIVES if degree(one) < 12])
SMALL = tuple([one for one in FINE if max(map(abs, one[0] + one[1])) < 1000])
PLACES = (Fraction(1, 3), Fraction(5, 2), Fraction(-11, 13))


def line_at(pieces, end, place):
    """The impedance at a fraction, None beyond all bounds, worked out by itself from the end."""
    found = None if end is None else quotient_at(end, place)
    for piece in reversed(pieces):
        w = as_fraction(piece)
        if found is None:
            found = w / place
        else:
            above, below = w * (found + place * w), w + place * found
            found = None if below == 0 else above / below
    return found


def piece_chain(piece):
    """The chain of a piece but for a factor: it is loaded as the piece is."""
    w = constant(piece)
    return ONE, multiply(S, w), divide(S, w), ONE


class Example(CoilTest):

    def test_interface(self):
        one = line_impedance(((2, 1), (1, 1)), ((3,), (1,)))
        self.assertEqual(one, ((6, 6, 12), (2, 9, 1)))
        self.assertEqual(take_piece(one)[0], (2, 1))
        self.assertEqual(line_of(one), (((2, 1), (1, 1)), ((3,), (1,))))
        self.assertEqual(line_of(((1, 0, 1), (0, 2))), (((1, 1), (1, 1)), None))
        self.assertEqual(exchanged((2, 1), ("P", "C", (1, 2))), (("S", "L", (1, 1)), (1, 1)))
        self.assertEqual(line_impedance(((2, 1),), None), ((2,), (0, 1)))


class Line(CoilTest):

    def test_values(self):
        source = random.Random(441)
        ends = [None, ZERO, ONE, S, ((1,), (0, 1)), ((-1,), (2,))] + some_functions(442, 40, 3, 5)
        for end in ends * 3:
            pieces = some_pieces(source, source.randint(0, 6))
            found = line_impedance(pieces, end)
            for place in PLACES:
                if found is None:
                    self.assertIsNone(line_at(pieces, end, place))
                else:
                    self.assertEqual(quotient_at(found, place), line_at(pieces, end, place))

    def test_no_pieces(self):
        for end in POSITIVES + NEGATIVES:
            self.assertEqual(line_impedance((), end), end)
        self.assertIsNone(line_impedance((), None))

    def test_ends(self):
        for piece in (ONES, (2, 3), (LIMIT // 2, 1), (1, LIMIT // 2)):
            number, under = piece
            self.assertEqual(line_impedance((piece,), None), ((number,), (0, under)))
            self.assertEqual(line_impedance((piece,), ZERO), ((0, number), (under,)))
            self.assertEqual(line_impedance((piece,), constant(piece)), constant(piece))
            self.assertEqual(line_impedance((piece,) * 12, constant(piece)), constant(piece))
            self.assertEqual(line_impedance((piece,) * 2, None), function((number, 0, number), (0, 2 * under)))
        self.assertEqual(line_impedance((ONES,), S), ((0, 2), (1, 0, 1)))

    def test_beyond_all_bounds(self):
        end = ((-2,), (0, 1))
        self.assertIsNone(line_impedance(((2, 1),), end))
        # The next piece ahead of it has an open end.
        self.assertEqual(line_impedance(((3, 1), (2, 1)), end), ((3,), (0, 1)))
        for other in (((2,), (0, 1)), ((-1,), (0, 1)), ((-2,), (1,)), ((0, -2), (1,))):
            self.assertIsNotNone(line_impedance(((2, 1),), other))

    def test_zero(self):
        self.assertEqual(line_impedance(((2, 1),), ((0, -2), (1,))), ZERO)
        self.assertEqual(line_impedance((ONES, (2, 1)), ((0, -2), (1,))), S)

    def test_chains(self):
        source = random.Random(443)
        for end in some_functions(444, 30, 2, 4):
            pieces = some_pieces(source, 3)
            chain = cascade(cascade(piece_chain(pieces[0]), piece_chain(pieces[1])), piece_chain(pieces[2]))
            found = line_impedance(pieces, end)
            if found is not None:
                self.assertEqual(found, loaded(chain, end))

    def test_positive(self):
        source = random.Random(445)
        for end in SMALL:
            pieces = some_pieces(source, source.randint(1, 12 - degree(end)))
            found = line_impedance(pieces, end)
            self.assertTrue(is_positive(found))
            self.assertLessEqual(degree(found), len(pieces) + degree(end))
            self.assertEqual(is_lossless(found), is_lossless(end))

    def test_degrees(self):
        pieces = some_pieces(random.Random(446), 12)
        for end in (None, ZERO, ((1,), (77,))):
            self.assertEqual(degree(line_impedance(pieces, end)), 12)
        self.assertEqual(self.raises(TooLarge, line_impedance, pieces, S).most, 12)
        self.assertEqual(self.raises(TooLarge, line_impedance, (ONES,), LOSSLESS_12).most, 12)
        self.assertEqual(self.raises(TooLarge, line_impedance, ((7, 3),), SUM_OF_12).most, 12)
        self.assertEqual(line_impedance((), SUM_OF_12), SUM_OF_12)
        # Behind a piece whose negative it is at 1, an end does not make the degree greater.
        found = line_impedance((value_at(SUM_OF_12, ONES),), subtract(ZERO, SUM_OF_12))
        self.assertEqual(max(map(len, found)), 13)

    def test_errors(self):
        for value, index in BAD_PIECES:
            self.assertEqual(self.raises(BadPieces, line_impedance, value, ONE).index, index)
            self.assertEqual(self.raises(BadPieces, line_impedance, value, 7).index, index)
        for value in BAD_FUNCTIONS:
            if value is not None:
                for pieces in ((), (ONES,), (ONES,) * 12):
                    self.raises(BadFunction, line_impedance, pieces, value)
        self.assertEqual(self.raises(BadPieces, line_impedance, (ONES,) * 12 + (None,), ONE).index, None)


class TakePiece(CoilTest):

    def test_there_and_back(self):
        for one in FINE + tuple(some_functions(451, 100, 4, 6)):
            found = take_piece(one)
            value = value_at(one, ONES)
            if value is None or value[0] <= 0:
                self.assertIsNone(found)
            else:
                self.assertEqual(found[0], value)
                self.assertEqual(line_impedance((value,), found[1]), one)
                self.assertLessEqual(0 if found[1] is None else degree(found[1]), degree(one))

    def test_formula(self):
        for one in some_functions(452, 100, 3, 6):
            found = take_piece(one)
            if found is not None:
                w = constant(found[0])
                below = subtract(w, multiply(S, one))
                above = multiply(w, subtract(one, multiply(S, w)))
                self.assertEqual(found[1], None if below == ZERO else divide(above, below))

    def test_degree(self):
        """It is less exactly if Z(-1) is -Z(1), but for functions of degree 0."""
        many = [0, 0]
        for one in FINE + tuple(some_functions(453, 800, 2, 3)):
            found = take_piece(one)
            if found is not None and degree(one) > 0:
                back = value_at(one, (-1, 1))
                falls = back == (-found[0][0], found[0][1])
                self.assertEqual(degree(one) - (0 if found[1] is None else degree(found[1])), int(falls), one)
                many[falls] += 1
        self.assertGreater(min(many), 20)

    def test_positive(self):
        for one in POSITIVES:
            if one != ZERO:
                rest = take_piece(one)[1]
                self.assertTrue(rest is None or is_positive(rest))

    def test_one_ratio(self):
        for ratio in (ONES, (2, 3), (LIMIT, 1), (1, LIMIT)):
            self.assertEqual(take_piece(constant(ratio)), (ratio, constant(ratio)))

    def test_ends(self):
        self.assertEqual(take_piece(((2,), (0, 3))), ((2, 3), None))
        self.assertEqual(take_piece(((0, 2), (3,))), ((2, 3), ZERO))
        self.assertEqual(take_piece(((1, 0, 1), (0, 2))), (ONES, ((1,), (0, 1))))

    def test_none(self):
        for one in (ZERO, ((-1,), (1,)), ((0, -1), (1,)), ((1,), (-1, 1)), ((-1, 1), (1,)), ((1, -1), (1, 1)),
                    ((1, 1), (-1, 1)), ((-1, 0, 1), (1,)), ((-3, 1, 1), (1,)), ((1,), (-1, 0, 1)), ((1,), (-2, 1))):
            self.assertIsNone(take_piece(one), one)

    def test_greatest_degree(self):
        for one in (POSITIVE_12, LOSSLESS_12, SUM_OF_12):
            piece, rest = take_piece(one)
            self.assertEqual(piece, value_at(one, ONES))
            self.assertEqual(degree(rest), 11 if one == LOSSLESS_12 else 12)

    def test_errors(self):
        for value in BAD_FUNCTIONS:
            self.raises(BadFunction, take_piece, value)


class LineOf(CoilTest):

    def test_there_and_back(self):
        source = random.Random(461)
        for many in list(range(1, 13)) * 3:
            pieces = some_pieces(source, many)
            for end in (None, ZERO, constant(some_ratio(source))):
                if end not in (None, ZERO) and end == constant(pieces[-1]):
                    continue
                self.assertEqual(line_of(line_impedance(pieces, end)), (pieces, end))

    def test_neighbors_alike(self):
        for many in (2, 5, 12):
            for end in (None, ZERO, ((2,), (1,))):
                self.assertEqual(line_of(line_impedance((ONES,) * many, end)), ((ONES,) * many, end))
                alike = (ONES,) * (many // 2) + ((3, 1),) * (many - many // 2)
                self.assertEqual(line_of(line_impedance(alike, end)), (alike, end))
        # A piece like its end is none: the degree does not tell it.
        self.assertEqual(line_of(line_impedance((ONES, (2, 1), (2, 1)), ((2,), (1,)))), ((ONES,), ((2,), (1,))))

    def test_degree_0(self):
        self.assertEqual(line_of(ZERO), ((), ZERO))
        self.assertEqual(line_of(((3,), (7,))), ((), ((3,), (7,))))
        self.assertIsNone(line_of(((-3,), (7,))))

    def test_lossless(self):
        for one in LOSSLESS:
            pieces, end = line_of(one)
            self.assertEqual(len(pieces), degree(one))
            self.assertIn(end, (None, ZERO))
            if max(map(max, pieces)) <= LIMIT:
                self.assertEqual(line_impedance(pieces, end), one)
        for one in NEGATIVES:
            if degree(one) < 12:
                self.assertIsNone(line_of(one))

    def test_others(self):
        """With a positive end there is one exactly if left and echo are as the document tells."""
        source = random.Random(462)
        ones = [line_impedance(some_pieces(source, source.randint(1, 4)), constant(some_ratio(source)))
                for _ in range(30)]
        ones += [subtract(one, ((1,), (source.randint(5, 90),))) for one in ones[:15]]
        ones += some_functions(463, 1500, 2, 2) + list(SMALL)
        many = [0, 0]
        for one in ones:
            found = line_of(one)
            if found is None or found[1] not in (None, ZERO):
                self.assertEqual(found is not None, has_positive_end(one), one)
                many[found is not None] += 1
            if found is not None:
                self.assertEqual(len(found[0]), degree(one))
                self.assertEqual(line_impedance(*found), one)
        self.assertGreater(min(many), 20)

    def test_known(self):
        for one, wanted in ((S, ((ONES,), ZERO)), (((1,), (0, 1)), ((ONES,), None)),
                            (((2, 4), (2, 1)), (((2, 1),), ONE)), (((1, 1), (1,)), None), (((1,), (1, 1)), None),
                            (((0, -1), (1,)), None), (((1, 0, 1), (0, 2)), ((ONES, ONES), None)),
                            (((0, 2), (1, 0, 1)), ((ONES, ONES), ZERO))):
            self.assertEqual(line_of(one), wanted, one)

    def test_step_beside(self):
        """Pieces there are, but one of them would not be positive, or the degree stays once."""
        one = line_impedance((ONES, (2, 1)), ((-1,), (5,)))
        self.assertIsNone(line_of(one))
        self.assertIsNone(line_of(line_impedance((ONES, (2, 1)), ((1, 1), (1,)))))
        self.assertIsNone(line_of(line_impedance((ONES, (2, 1)), ((0, -1), (3,)))))
        self.assertIsNone(line_of(line_impedance((ONES,) * 3, ((-2, 1), (1,)))))

    def test_errors(self):
        for value in BAD_FUNCTIONS:
            self.raises(BadFunction, line_of, value)


def has_positive_end(one):
    """Whether a function has pieces and a positive end, by its echo."""
    if one == ((-1,), (1,)):
        return False
    echo, left = echo_of(one)
    if not is_left(left):
        return False
    wanted = product_of(*[(1, 0, -1)] * degree(one))
    share = function(gap_of(left, echo), wanted)
    return degree(share) == 0 and share != ZERO and share[0][0] > 0


class Exchanged(CoilTest):

    def test_impedance_stays(self):
        source = random.Random(471)
        for end in (None, ZERO, ONE, S) + tuple(some_functions(472, 60, 3, 5)):
            piece, worth = some_ratio(source), some_ratio(source)
            for rung in (("P", "C", worth), ("S", "L", worth)):
                first, behind = exchanged(piece, rung)
                self.assertEqual(first[:2], {"P": ("S", "L"), "S": ("P", "C")}[rung[0]])
                for place in PLACES:
                    # The rung stands behind the piece, and then ahead of it.
                    one = line_at((piece,), as_end(rung_ahead(rung, end, place)), place)
                    other = rung_ahead(first, as_end(line_at((behind,), end, place)), place)
                    self.assertEqual(one, other)

    def test_there_and_back(self):
        """The answer, seen from its other end, is a piece with a rung behind it."""
        source = random.Random(473)
        for _ in range(40):
            piece, worth = some_ratio(source), some_ratio(source)
            for rung in (("P", "C", worth), ("S", "L", worth)):
                first, behind = exchanged(piece, rung)
                self.assertEqual(exchanged(behind, first), (rung, piece))

    def test_formulas(self):
        source = random.Random(474)
        for _ in range(40):
            piece, worth = some_ratio(source), some_ratio(source)
            w, size = as_fraction(piece), as_fraction(worth)
            less = w / (1 + w * size)
            self.assertEqual(exchanged(piece, ("P", "C", worth)), (("S", "L", as_ratio(w - less)), as_ratio(less)))
            more = w + size
            self.assertEqual(exchanged(piece, ("S", "L", worth)), (("P", "C", as_ratio(size / (w * more))), as_ratio(more)))

    def test_great_numbers(self):
        rung, behind = exchanged((LIMIT, 1), ("P", "C", (LIMIT, 1)))
        self.assertEqual(behind, (LIMIT, 1 + LIMIT * LIMIT))
        self.assertEqual(as_fraction(rung[2]) + as_fraction(behind), LIMIT)

    def test_errors(self):
        fine = ("P", "C", ONES)
        for value in BAD_POSITIVES + ODDITIES:
            self.raises(BadRatio, exchanged, value, fine)
            self.raises(BadRatio, exchanged, value, None)
        others = [(place, kind, ONES) for place in "SP" for kind in "RLC" if (place, kind) not in (("P", "C"), ("S", "L"))]
        for value in BAD_RUNGS + tuple(others) + (fine[:2], fine + (1,), list(fine), (fine,), ("C", "P", ONES)):
            self.raises(BadRung, exchanged, ONES, value)
        for value in BAD_POSITIVES:
            self.raises(BadRung, exchanged, ONES, ("P", "C", value))
            self.raises(BadRung, exchanged, ONES, ("S", "L", value))


def as_end(value):
    """A value at a place as an end; None is an open one."""
    return None if value is None else ((value.numerator,) if value else (), (value.denominator,))


def rung_ahead(rung, end, place):
    """The value of a rung with an end behind it, None beyond all bounds."""
    behind = None if end is None else quotient_at(end, place)
    own = quotient_at(ladder_impedance((rung,)), place)
    if rung[0] == "S":
        return None if behind is None else own + behind
    if behind is None:
        return own
    return None if own + behind == 0 else own * behind / (own + behind)


if __name__ == "__main__":
    unittest.main()
