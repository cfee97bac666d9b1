"""An own multiplying out of closed forms, with Fractions, for the tests."""

import itertools
from fractions import Fraction


def cells(box):
    """Return all powers up to those of box, the lesser ones ahead."""
    return itertools.product(*[range(power + 1) for power in box])


def multiplied_out(form, box):
    """Return the coefficients of form at all powers up to those of box."""
    total = {powers: Fraction(0) for powers in cells(box)}
    for above, below in form:
        part = {powers: Fraction(0) for powers in total}
        for powers, fraction in above:
            if powers in part:
                part[powers] += Fraction(*fraction)
        for divisor in below:
            divide(part, divisor)
        for powers, number in part.items():
            total[powers] += number
    return total


def divide(part, divisor):
    """Divide the coefficients of part, which stand by rising powers, by divisor."""
    terms = [(powers, Fraction(*fraction)) for powers, fraction in divisor[1:]]
    for powers in part:
        for step, number in terms:
            ahead = tuple(map(int.__sub__, powers, step))
            if min(ahead) >= 0 and part[ahead]:
                part[powers] -= number * part[ahead]
