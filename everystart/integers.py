"""Integers: what is one, and powers of them."""


def is_integer(value):
    """Return whether value is an integer; True and False are none here."""
    return isinstance(value, int) and not isinstance(value, bool)


def is_within(value, least, most):
    """Return whether value is an integer from least to most."""
    return is_integer(value) and least <= value <= most


def power(base, exponent):
    """Return the product of as many times base as exponent tells."""
    result = 1
    while exponent > 0:
        if exponent & 1 == 1:
            result = result * base
        base = base * base
        exponent = exponent >> 1
    return result
