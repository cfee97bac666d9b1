"""Fractions: pairs (a, b) in lowest terms, b from 1 on, and their texts."""

from math import gcd

from everystart.bounds import MAX_FIGURES
from everystart.errors import BadText, Unfit
from everystart.integers import is_integer

FIGURES = "0123456789"


def is_fraction(value):
    """Return whether value is a fraction."""
    if not isinstance(value, tuple) or len(value) != 2:
        return False
    a, b = value
    return is_integer(a) and is_integer(b) and b >= 1 and gcd(a, b) == 1


def is_chance(value):
    """Return whether value is a fraction above 0 and below 1."""
    return is_fraction(value) and 0 < value[0] < value[1]


def lowest(a, b):
    """Return the fraction a / b."""
    if b == 0:
        raise Unfit()
    divisor = gcd(a, b)
    if b < 0:
        divisor = -divisor
    return a // divisor, b // divisor


def compared(one, other):
    """Return -1, 0 or 1, as one is less than, equal to, or greater than other."""
    left = one[0] * other[1]
    right = other[0] * one[1]
    if left < right:
        return -1
    if left > right:
        return 1
    return 0


def added_fractions(one, other):
    """Return the sum of two fractions."""
    return lowest(one[0] * other[1] + other[0] * one[1], one[1] * other[1])


def fraction_text(fraction):
    """Return the text of fraction."""
    a, b = fraction
    if b == 1:
        return _integer_text(a)
    return _integer_text(a) + "/" + _integer_text(b)


def read_fraction(value):
    """Return the fraction of which value is the text."""
    if not isinstance(value, str):
        raise BadText()
    above, slash, below = value.partition("/")
    a = _read_integer(above)
    if slash == "":
        return a, 1
    b = _read_integer(below)
    if b < 2 or gcd(a, b) > 1:
        raise BadText()
    return a, b


def _integer_text(number):
    """Return number in decimal, however great it is."""
    # Python itself refuses to write integers of some thousand figures at once,
    # and fractions of this package may have more.
    piece = 10 ** 64
    rest = abs(number)
    texts = []
    while rest >= piece:
        rest, low = divmod(rest, piece)
        texts.append(str(low).zfill(64))
    texts.append(str(rest))
    if number < 0:
        texts.append("-")
    return "".join(reversed(texts))


def _read_integer(text):
    """Return the integer of which text is the text in decimal."""
    figures = text.removeprefix("-")
    if not 1 <= len(figures) <= MAX_FIGURES:
        raise BadText()
    # Signs that other alphabets have for figures are figures for int, too.
    if not all([sign in FIGURES for sign in figures]):
        raise BadText()
    if figures[0] == "0" and text != "0":
        raise BadText()
    return int(text)
