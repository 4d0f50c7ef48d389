"""Texts of functions."""

from coilnets.checks import check_function
from coilnets.errors import InvalidText, NotText
from coilnets.polys import trimmed
from coilnets.quotients import MOST_DEGREE, quotient

MOST_DIGITS = 60


def write(function):
    """The text of a function."""
    check_function(function)
    top, bottom = function
    if bottom == (1,):
        return _polynomial_text(top)
    return f"({_polynomial_text(top)})/({_polynomial_text(bottom)})"


def read(text):
    """The function of a text."""
    if not isinstance(text, str):
        raise NotText()
    bottom = (1,)
    if text.startswith("("):
        top, at = _read_in_parentheses(text, 0)
        bottom, at = _read_in_parentheses(text, _behind(text, at, "/"))
    else:
        top, at = _read_polynomial(text, 0)
    if at < len(text):
        raise InvalidText(at)
    return quotient(top, bottom)


def _polynomial_text(polynomial):
    text = ""
    for power in reversed(range(len(polynomial))):
        coefficient = polynomial[power]
        if coefficient < 0:
            text += "-"
        elif coefficient > 0 and text != "":
            text += "+"
        if coefficient != 0:
            text += _term_text(abs(coefficient), power)
    return text if text != "" else "0"


def _term_text(size, power):
    if power == 0:
        return str(size)
    name = "s" if power == 1 else f"s^{power}"
    return name if size == 1 else f"{size}{name}"


def _behind(text, at, sign):
    """The place behind a sign that must stand at a place."""
    if text[at:at + 1] != sign:
        raise InvalidText(at)
    return at + 1


def _read_in_parentheses(text, at):
    """The polynomial in parentheses at a place, and the place behind it."""
    polynomial, at = _read_polynomial(text, _behind(text, at, "("))
    return polynomial, _behind(text, at, ")")


def _read_polynomial(text, at):
    """The polynomial at a place, and the place of the first character that cannot belong to it."""
    if _has_digit(text, at):
        number, behind = _read_number(text, at)
        if number == 0:
            return (), behind
    coefficients = [0] * (MOST_DEGREE + 1)
    before = MOST_DEGREE + 1
    negative = text[at:at + 1] == "-"
    if negative:
        at += 1
    while True:
        size, before, at = _read_term(text, at, before)
        coefficients[before] = -size if negative else size
        if text[at:at + 1] not in ("+", "-"):
            return trimmed(coefficients), at
        negative = text[at] == "-"
        at += 1


def _read_term(text, start, before):
    """The size and the power of the term at a place, and the place behind it; before is the last term's power."""
    size = 1
    at = start
    if _has_digit(text, at):
        size, at = _read_number(text, at)
    written = at > start
    power = 0
    if text[at:at + 1] == "s":
        power, at = _read_power(text, at + 1)
    elif not written:
        raise InvalidText(at)
    if power >= before or size == 0 or (written and size == 1 and power > 0):
        raise InvalidText(start)
    return size, power, at


def _read_power(text, at):
    """The power of s that is told at the place behind the s, and the place behind it."""
    if text[at:at + 1] != "^":
        return 1, at
    start = at + 1
    if not _has_digit(text, start):
        raise InvalidText(start)
    power, at = _read_number(text, start)
    if power < 2 or power > MOST_DEGREE:
        raise InvalidText(start)
    return power, at


def _read_number(text, start):
    """The number at a place where a digit stands, and the place behind it."""
    at = start
    while _has_digit(text, at):
        at += 1
    if at - start > MOST_DIGITS or (text[start] == "0" and at - start > 1):
        raise InvalidText(start)
    return int(text[start:at]), at


def _has_digit(text, at):
    # A place behind the end has the character "", which is in every string.
    return at < len(text) and text[at] in "0123456789"
