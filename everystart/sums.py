"""Sums of products of names, with integers, as the modules of polynomials reckon with them.

A sum is a dict: for each product of names its key, and the integer, not 0, that it is taken times.
The key of a product holds all of its powers in one integer, in fields of so many bits each, the
first name's highest. So the key of two products together is the sum of both keys, and keys stand in
the order of the powers, as long as no power outgrows its field.
"""

from math import gcd

from everystart.integers import power


class Keys:
    """How the powers of many names are put into keys, in fields of width bits."""

    def __init__(self, many, width):
        self.many = many
        self.width = width
        self.mask = (1 << width) - 1

    def unit(self, place):
        """Return the key of the name at place by itself."""
        return 1 << self.bits(place)

    def bits(self, place):
        """Return how many bits stand below the field of the name at place."""
        return (self.many - 1 - place) * self.width

    def key(self, powers):
        """Return the key of powers."""
        key = 0
        for number in powers:
            key = (key << self.width) | number
        return key

    def powers(self, key):
        """Return the powers of which key is the key."""
        return tuple([self.at(key, place) for place in range(self.many)])

    def at(self, key, place):
        """Return the power of the name at place in key."""
        return (key >> self.bits(place)) & self.mask


def plus(one, other):
    """Return the sum of two sums."""
    total = {key: number for key, number in one.items()}
    for key, number in other.items():
        total[key] = total.get(key, 0) + number
    return _cleared(total)


def times(one, other):
    """Return the product of two sums."""
    total = {}
    for key, number in one.items():
        for step, factor in other.items():
            total[key + step] = total.get(key + step, 0) + number * factor
    return _cleared(total)


def _cleared(total):
    """Return total without what is taken 0 times."""
    if all(list(total.values())):
        return total
    return {key: number for key, number in total.items() if number != 0}


def scaled(total, number):
    """Return total times number, which is not 0."""
    return {key: worth * number for key, worth in total.items()}


def moved(total, step):
    """Return total times the product of names of which step is the key."""
    return {key + step: number for key, number in total.items()}


def content(total):
    """Return the greatest common divisor of all integers of total, 0 if it has none."""
    divisor = 0
    for number in total.values():
        divisor = gcd(divisor, number)
        if divisor == 1:
            break
    return divisor


def raised(total, many):
    """Return the product of many times total."""
    if len(total) == 1:
        return {key * many: power(number, many) for key, number in total.items()}
    result = {0: 1}
    for _ in range(many):
        result = times(result, total)
    return result


def by_power(keys, total, place):
    """Return a dict of the sums by which the powers of the name at place are multiplied in total."""
    found = {}
    for key, number in total.items():
        exponent = keys.at(key, place)
        rest = key - exponent * keys.unit(place)
        found.setdefault(exponent, {})[rest] = number
    return found
