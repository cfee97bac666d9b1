"""Sums of products of names, with integers, as the modules of polynomials reckon with them.

A sum is a dict: for each product of names its key, and the integer, not 0, that it is taken times.
The key of a product holds all of its powers in one integer, in fields of so many bits each, the
first name's highest. So the key of two products together is the sum of both keys, and keys stand in
the order of the powers, as long as no power comes to the highest bit of its field.
"""

from heapq import heapify, heappop, heappush
from math import gcd

from everystart.bounds import MAX_TERMS
from everystart.errors import TooMany
from everystart.integers import power

# How many products of two terms one call may come to, before it is too much for the package.
MAX_WORK = 5000000


class Keys:
    """How the powers of many names are put into keys, in fields of width bits, and the work left."""

    def __init__(self, many, width):
        self.many = many
        self.width = width
        self.mask = (1 << width) - 1
        self.guard = 0
        for place in range(many):
            self.guard = self.guard | (1 << (self.bits(place) + width - 1))
        self.budget = MAX_WORK

    def bits(self, place):
        """Return how many bits stand below the field of the name at place."""
        return (self.many - 1 - place) * self.width

    def unit(self, place):
        """Return the key of the name at place by itself."""
        return 1 << self.bits(place)

    def field(self, place):
        """Return the bits of the field of the name at place."""
        return self.mask << self.bits(place)

    def key(self, powers):
        """Return the key of powers."""
        key = 0
        for number in powers:
            key = (key << self.width) | number
        return key

    def powers(self, key):
        """Return the powers of which key is the key."""
        return tuple([self.at(key, place) for place in range(self.many)])

    def at(self, key, place):
        """Return the power of the name at place in key."""
        return (key >> self.bits(place)) & self.mask

    def divides(self, one, other):
        """Return whether no power in the key one is above that in the key other."""
        # A field of one that is above that of other takes away the guard's bit there.
        return ((other | self.guard) - one) & self.guard == self.guard

    def spend(self, work):
        """Take work from what is left, which has to be enough for it."""
        self.budget -= work
        if self.budget < 0:
            raise TooMany(MAX_TERMS)

    def bound(self, many):
        """Check that many, a number of factors, is not too great."""
        if many > MAX_TERMS:
            raise TooMany(MAX_TERMS)

    def times(self, one, other):
        """Return the product of two sums, for which there has to be work left."""
        self.spend(len(one) * len(other))
        return times(one, other)

    def raised(self, total, many):
        """Return the product of many times total, for which there has to be work left."""
        if len(total) == 1:
            return raised(total, many)
        # The product has more terms than it has factors.
        self.bound(many)
        result = {0: 1}
        for _ in range(many):
            result = self.times(result, total)
        return result


def plus(one, other):
    """Return the sum of two sums."""
    total = {key: number for key, number in one.items()}
    for key, number in other.items():
        total[key] = total.get(key, 0) + number
    return _cleared(total)


def times(one, other):
    """Return the product of two sums."""
    total = {}
    for key, number in one.items():
        for step, factor in other.items():
            total[key + step] = total.get(key + step, 0) + number * factor
    return _cleared(total)


def _cleared(total):
    """Return total without what is taken 0 times."""
    if all(list(total.values())):
        return total
    return {key: number for key, number in total.items() if number != 0}


def scaled(total, number):
    """Return total times number, which is not 0."""
    return {key: worth * number for key, worth in total.items()}


def moved(total, step):
    """Return total times the product of names of which step is the key, or divided by it if step is below 0."""
    return {key + step: number for key, number in total.items()}


def content(total):
    """Return the greatest common divisor of all integers of total, 0 if it has none."""
    divisor = 0
    for number in total.values():
        divisor = gcd(divisor, number)
        if divisor == 1:
            break
    return divisor


def raised(total, many):
    """Return the product of many times total."""
    if len(total) == 1:
        return {key * many: power(number, many) for key, number in total.items()}
    result = {0: 1}
    for _ in range(many):
        result = times(result, total)
    return result


def by_power(keys, total, place):
    """Return a dict of the sums by which the powers of the name at place are multiplied in total."""
    found = {}
    for key, number in total.items():
        exponent = keys.at(key, place)
        found.setdefault(exponent, {})[key - exponent * keys.unit(place)] = number
    return found


def with_nought(keys, total, place):
    """Return total with 0 put for the name at place."""
    field = keys.field(place)
    return {key: number for key, number in total.items() if key & field == 0}


def with_one(keys, total, place):
    """Return total with 1 put for the name at place."""
    field = keys.field(place)
    found = {}
    for key, number in total.items():
        rest = key - (key & field)
        found[rest] = found.get(rest, 0) + number
    return _cleared(found)


def slope(keys, total, place):
    """Return the derivative of total by the name at place."""
    unit = keys.unit(place)
    found = {}
    for key, number in total.items():
        exponent = keys.at(key, place)
        if exponent > 0:
            found[key - unit] = number * exponent
    return found


def divided(keys, total, divisor):
    """Return the sum that makes total, which is not empty, when it is multiplied by divisor; None if there is none.

    divisor is an ascending tuple of pairs (key, integer), of which no two integers have a common divisor.
    """
    last, highest = divisor[-1]
    top, low = max(list(total)), min(list(total))
    if total[top] // highest * highest != total[top] or not keys.divides(last, top):
        return None
    if total[low] // divisor[0][1] * divisor[0][1] != total[low]:
        return None
    rest = {key: number for key, number in total.items()}
    waiting = [-key for key in rest]
    heapify(waiting)
    found = {}
    while waiting:
        key = -heappop(waiting)
        number = rest[key]
        if number == 0:
            continue
        factor = number // highest
        if factor * highest != number or not keys.divides(last, key):
            return None
        keys.spend(len(divisor))
        found[key - last] = factor
        for step, worth in divisor:
            other = key - last + step
            if other not in rest:
                rest[other] = 0
                heappush(waiting, -other)
            rest[other] -= factor * worth
    return found
