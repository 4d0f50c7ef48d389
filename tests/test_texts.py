"""Promises 7 and 8: writing and reading functions."""

import unittest

from coilnets.errors import BadFunction, InvalidText, NoFunction, NotText
from coilnets.functions import function
from coilnets.texts import read, write
from helpers import BAD_FUNCTIONS, LIMIT, ONE, S, ZERO, CoilTest, power, some_functions

SIXTY = "9" * 60


class Example(CoilTest):

    def test_interface(self):
        self.assertEqual(write(((0, 1), (1, 0, 2))), "(s)/(2s^2+1)")
        self.assertEqual(read("(2s^2+2s)/(2s)"), ((1, 1), (1,)))
        self.assertEqual(read("-3"), ((-3,), (1,)))
        self.assertEqual(write(ZERO), "0")
        self.assertEqual(self.raises(InvalidText, read, "(s+s^2)/(2)").place, 3)


class Write(CoilTest):

    def test_forms(self):
        for one, text in (
                (ZERO, "0"), (ONE, "1"), (((-1,), (1,)), "-1"), (((25,), (1,)), "25"), (S, "s"), (((0, -1), (1,)), "-s"),
                (((0, 7), (1,)), "7s"), (((0, -7), (1,)), "-7s"), (((1, 1), (1,)), "s+1"), (((-1, 1), (1,)), "s-1"),
                (((1, -1), (1,)), "-s+1"), (((0, 0, 1), (1,)), "s^2"), (((5, 0, -3, 1), (1,)), "s^3-3s^2+5"),
                (((-5, 4, 3, -11), (1,)), "-11s^3+3s^2+4s-5"), (power(12), "s^12"), (((0, -10, 1), (1,)), "s^2-10s"),
                (((1,), (2,)), "(1)/(2)"), (((-1,), (2,)), "(-1)/(2)"), (((1,), (0, 1)), "(1)/(s)"),
                (((0, 1), (2,)), "(s)/(2)"), (((1, 2), (-3, 1)), "(2s+1)/(s-3)"),
                (((0, 0, -1, 1), (1, 0, 0, 5)), "(s^3-s^2)/(5s^3+1)"), (((LIMIT,), (1,)), "1" + "0" * 60)):
            self.assertEqual(write(one), text)

    def test_errors(self):
        for value in BAD_FUNCTIONS:
            self.raises(BadFunction, write, value)


class Read(CoilTest):

    def test_what_was_written(self):
        for one in some_functions(31, 60, 12, 3) + some_functions(32, 20, 12, 10 ** 59) + [ZERO, ONE, S, power(12)]:
            self.assertEqual(read(write(one)), one)

    def test_forms(self):
        for text, one in (
                ("0", ZERO), ("1", ONE), ("-1", ((-1,), (1,))), ("s", S), ("-s", ((0, -1), (1,))), ("10s", ((0, 10), (1,))),
                ("s^2-2s+30", ((30, -2, 1), (1,))), ("-s^12-1", ((-1,) + (0,) * 11 + (-1,), (1,))),
                ("2s^10", ((0,) * 10 + (2,), (1,))), (SIXTY, ((LIMIT - 1,), (1,))), ("-" + SIXTY + "s^3",
                                                                                    ((0, 0, 0, 1 - LIMIT), (1,))),
                ("(0)/(1)", ZERO), ("(0)/(s^2-5)", ZERO), ("(4)/(-6)", ((-2,), (3,))), ("(s)/(1)", S), ("(2s)/(2)", S),
                ("(s^2-1)/(s+1)", ((-1, 1), (1,))), ("(-s)/(-s^2)", ((1,), (0, 1))), ("(s^2)/(s^12)", ((1,), power(10)[0])),
                ("(6s+4)/(-2s)", ((-2, -3), (0, 1)))):
            self.assertEqual(read(text), one)
        self.assertEqual(read("(" + SIXTY + "s+1)/(" + SIXTY + ")"), function((1, LIMIT - 1), (LIMIT - 1,)))

    def test_no_text(self):
        for value in (None, True, False, 0, 5, (), ("s",), [], ["s"], {}, {"s": "s"}, ((0, 1), (1,))):
            self.raises(NotText, read, value)

    def test_no_function(self):
        for text in ("(1)/(0)", "(0)/(0)", "(s^2-2s)/(0)"):
            self.raises(NoFunction, read, text)

    def test_no_function_behind_the_text(self):
        for text, place in (("(1)/(0))", 7), ("(1)/(0", 6), ("(1s)/(0)", 1), ("(1)/(0) ", 7)):
            self.assertEqual(self.raises(InvalidText, read, text).place, place)


class Places(CoilTest):

    def places(self, *rows):
        for text, place in rows:
            self.assertEqual(self.raises(InvalidText, read, text).place, place, text)

    def test_characters_that_are_not_allowed(self):
        self.places(
            ("x", 0), (" ", 0), (" s", 0), ("s ", 1), ("S", 0), ("+s", 0), ("+", 0), ("--s", 1), ("-+1", 1), ("s+-1", 2),
            ("s++1", 2), ("2x", 1), ("2 s", 1), ("2*s", 1), ("s2", 1), ("ss", 1), ("s^x", 2), ("s^-2", 2), ("s^+2", 2),
            ("s^ 2", 2), ("s^^2", 2), ("^2", 0), ("2^2", 1), ("s^2^2", 3), ("s^2s", 3), ("s**2", 1), ("s^s", 2),
            ("1/2", 1), ("s/s", 1), ("s)", 1), (")", 0), ("/", 0), ("2(s)", 1), ("s+(1)", 2), ("1.5", 1), ("1,5", 1),
            ("s\n", 1), ("-x", 1), ("s+x", 2), ("s^2+^2", 4), ("5s+2 ", 4), ("0 ", 1), ("0+s", 1), ("0-1", 1), ("0/1", 1),
            ("\u0663", 0), ("s^\u00b2", 2), ("1\u0663", 1), ("s\u00b2", 1), ("s_", 1), ("1_0", 1), ("\u017f", 0))

    def test_characters_around_parentheses(self):
        self.places(
            ("()", 1), ("(+s)/(1)", 1), ("((s))/(1)", 1), ("(s]/(1)", 2), ("(s/(1)", 2), ("(s)(1)", 3), ("(s)*(1)", 3),
            ("(s) /(1)", 3), ("(s)/1", 4), ("(s)/ (1)", 4), ("(s)/()", 5), ("(s)/(x)", 5), ("(s)/(1]", 6),
            ("(s)/(1)/(2)", 7), ("(s)/(1)+1", 7), ("(s)/(1) ", 7), ("(s)/(1))", 7), ("(s)//(1)", 4), ("-(s)/(1)", 1),
            ("s/(1)", 1), ("(0+1)/(1)", 2), ("(1)/(0+1)", 6), ("(s)/(s+)", 7), ("(-)/(1)", 2))

    def test_texts_that_end_too_early(self):
        self.places(
            ("", 0), ("-", 1), ("s+", 2), ("s-", 2), ("s^", 2), ("-2s^", 4), ("s^2-3s^", 7), ("3+", 2), ("(", 1), ("(-", 2),
            ("(s", 2), ("(0", 2), ("(s^", 3), ("(s+", 3), ("(s)", 3), ("(s)/", 4), ("(s)/(", 5), ("(s)/(-", 6),
            ("(s)/(2", 6), ("(s)/(2s^", 8), ("(0)/(0", 6))

    def test_numbers(self):
        self.places(
            ("-05", 1), ("-00", 1), ("s+01", 2), ("s+00", 2), ("s^2-007s", 4), ("(s+01)/(2)", 3), ("(s)/(-02)", 6),
            ("s^02", 2), ("s^012", 2), ("s^00", 2), ("3s^02", 3), ("s^3+s^02", 6),
            ("1" * 61, 0), ("-" + "1" * 61, 1), ("s+" + "2" * 61, 2), ("7" * 61 + "s", 0), ("s^" + "1" * 61, 2),
            ("7" * 200 + "x", 0), ("(1)/(" + "1" * 61 + ")", 5))

    def test_powers(self):
        self.places(
            ("s^0", 2), ("s^1", 2), ("s^13", 2), ("s^99", 2), ("s^120", 2), ("5s^0", 3), ("-5s^1", 4), ("s^12+s^1", 7),
            ("(s^13)/(1)", 3), ("(1)/(2s^0)", 8))

    def test_terms_out_of_order(self):
        self.places(
            ("s+s", 2), ("s+s^2", 2), ("s-s", 2), ("1+1", 2), ("1+s", 2), ("3-2s^2", 2), ("s^2+3s^2", 4), ("s^2+s+2s", 6),
            ("s^12-5s^12", 5), ("s+1+1", 4), ("s+1-s^5", 4), ("(1)/(s+s)", 7), ("(2+s)/(1)", 3), ("-s-5s", 3))

    def test_coefficients(self):
        self.places(
            ("-0", 1), ("s+0", 2), ("s-0", 2), ("s^2+0s", 4), ("s^2-0s", 4), ("-0s", 1), ("-0s^2", 1), ("s^3+0s^2", 4),
            ("1s", 0), ("-1s", 1), ("1s^2", 0), ("s^2+1s", 4), ("s^2-1s", 4), ("2s^5-1s^4", 5), ("(1s)/(2)", 1),
            ("(2)/(-1s^2)", 6), ("(-0)/(1)", 2))

    def test_the_first_place(self):
        self.places(("x+01", 0), ("s^13+x", 2), ("s+s+x", 2), ("1s+", 0), ("s+01x", 2), ("(1s)/(x", 1))


if __name__ == "__main__":
    unittest.main()
