"""Polynomials: tuples of terms, their sums and products, and one put in for a name of another."""

from math import lcm

from everystart.fractions import is_fraction, lowest
from everystart.integers import is_integer, power
from everystart.sums import Keys, by_power, plus, raised, scaled, times


def polynomial_error(n, value):
    """Return None if value is a polynomial of n names, otherwise the first fault."""
    if not isinstance(value, tuple):
        return "form"
    for place, term in enumerate(value):
        if not _is_term(n, term):
            return "term", place
    for place in range(1, len(value)):
        if value[place][0] <= value[place - 1][0]:
            return "order", place
    return None


def _is_term(n, value):
    """Return whether value is a term of n names."""
    if not isinstance(value, tuple) or len(value) != 2:
        return False
    powers, fraction = value
    if not isinstance(powers, tuple) or len(powers) != n:
        return False
    if not all([is_integer(number) and number >= 0 for number in powers]):
        return False
    return is_fraction(fraction) and fraction[0] != 0


def greatest_power(polynomial):
    """Return the greatest of all powers in polynomial, 0 if there are none."""
    return max([max(powers, default=0) for powers, _ in polynomial], default=0)


def whole_sum(keys, polynomial):
    """Return the sum, and the integer that it is to be divided by, which polynomial stands for."""
    below = 1
    for _, fraction in polynomial:
        below = lcm(below, fraction[1])
    return {keys.key(powers): a * (below // b) for powers, (a, b) in polynomial}, below


def polynomial_of(keys, total, below):
    """Return the polynomial that stands for the sum total, divided by the integer below."""
    return tuple([(keys.powers(key), lowest(total[key], below)) for key in sorted(total)])


def _keys_for(polynomial, most):
    """Return keys for the names of polynomial, for powers up to most."""
    many = len(polynomial[0][0])
    return Keys(many, most.bit_length() + 1)


def added(one, other):
    """Return the sum of two polynomials."""
    if one == () or other == ():
        return one + other
    keys = _keys_for(one, max(greatest_power(one), greatest_power(other)))
    left, left_below = whole_sum(keys, one)
    right, right_below = whole_sum(keys, other)
    below = lcm(left_below, right_below)
    total = plus(scaled(left, below // left_below), scaled(right, below // right_below))
    return polynomial_of(keys, total, below)


def multiplied(one, other):
    """Return the product of two polynomials."""
    if one == () or other == ():
        return ()
    keys = _keys_for(one, greatest_power(one) + greatest_power(other))
    left, left_below = whole_sum(keys, one)
    right, right_below = whole_sum(keys, other)
    return polynomial_of(keys, times(left, right), left_below * right_below)


def put_in(n, polynomial, place, other):
    """Return the polynomial that comes if other stands for the name at place in polynomial."""
    greatest = greatest_power(polynomial)
    keys = Keys(n, (greatest + greatest * greatest_power(other)).bit_length() + 1)
    outer, outer_below = whole_sum(keys, polynomial)
    inner, inner_below = whole_sum(keys, other)
    found = by_power(keys, outer, place)
    most = max(list(found), default=0)
    total, factor, reached = {}, {0: 1}, 0
    for exponent in sorted(found):
        factor = times(factor, raised(inner, exponent - reached))
        reached = exponent
        # Those with a lesser power are divided by inner_below less often.
        lacking = power(inner_below, most - exponent)
        total = plus(total, scaled(times(found[exponent], factor), lacking))
    return polynomial_of(keys, total, outer_below * power(inner_below, most))
