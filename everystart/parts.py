"""Closed forms as the package reckons with them: forms.

A form is a dict: for each row of divisors what stands above them, a pair of a sum and of the integer,
from 1 on, that it is to be divided by. A divisor is here a tuple of the pairs (key, integer) of a sum,
ascending, whose constant is above 0, and whose integers have no common divisor; a row is a tuple of
divisors, ascending, and may have one of them several times.
"""

from math import gcd, lcm

from everystart.sums import content, divided, moved, plus, scaled, slope, with_one


def put_part(form, row, above, below):
    """Put what stands above row, the sum above over the integer below, to what form has there."""
    if row in form:
        held, held_below = form[row]
        del form[row]
        whole = lcm(below, held_below)
        above = plus(scaled(held, whole // held_below), scaled(above, whole // below))
        below = whole
    if above:
        shared = gcd(content(above), below)
        if shared > 1:
            above = {key: number // shared for key, number in above.items()}
        form[row] = (above, below // shared)


def added_forms(one, other):
    """Return the sum of two forms."""
    total = {row: part for row, part in one.items()}
    for row, (above, below) in other.items():
        put_part(total, row, above, below)
    return total


def scaled_form(form, a, b):
    """Return form times the fraction a / b, which is not 0."""
    found = {}
    for row, (above, below) in form.items():
        put_part(found, row, scaled(above, a), below * b)
    return found


def without_form(one, other):
    """Return what is left of the form one if other is taken away."""
    return added_forms(one, scaled_form(other, -1, 1))


def moved_form(form, step):
    """Return form times the product of names of which step is the key."""
    return {row: (moved(above, step), below) for row, (above, below) in form.items()}


def divisor_of(total):
    """Return the divisor of which total, whose constant is above 0, is a multiple, and how many times it.

    If total is a number alone there is (), in the place of the divisor.
    """
    factor = content(total)
    if len(total) == 1:
        return (), factor
    return tuple([(key, total[key] // factor) for key in sorted(total)]), factor


def sum_of(divisor):
    """Return the sum that divisor is."""
    return {key: number for key, number in divisor}


def product_of(keys, row):
    """Return the product of all divisors of row."""
    total = {0: 1}
    for divisor in row:
        total = keys.times(total, sum_of(divisor))
    return total


def row_of(totals):
    """Return the row of the divisors of totals, and the number that is left of their product."""
    row = []
    number = 1
    for total in totals:
        divisor, factor = divisor_of(total)
        number = number * factor
        if divisor != ():
            row.append(divisor)
    return tuple(sorted(row)), number


def row_with(row, more):
    """Return the row of the divisors of row and of the tuple more together."""
    return tuple(sorted(row + more))


def cancelled(keys, form):
    """Return form with no divisor below that what stands above is a multiple of."""
    found = {}
    for row, (above, below) in form.items():
        kept = []
        for divisor in row:
            # What a divisor did not divide once it does not divide the next time.
            quotient = None if divisor in kept[-1:] else divided(keys, above, divisor)
            if quotient is None:
                kept.append(divisor)
            else:
                above = quotient
        put_part(found, tuple(kept), above, below)
    return found


def gathered(keys, form, places):
    """Return form with 1 put for the names at places."""
    found = form
    for place in places:
        led = {}
        for row, (above, below) in found.items():
            kept, number = row_of([with_one(keys, sum_of(divisor), place) for divisor in row])
            put_part(led, kept, with_one(keys, above, place), below * number)
        found = led
    return found


def form_slope(keys, form, place):
    """Return the derivative of form by the name at place."""
    found = {}
    for row, (above, below) in form.items():
        put_part(found, row, slope(keys, above, place), below)
        for divisor, often in counted(row).items():
            falling = slope(keys, sum_of(divisor), place)
            if falling:
                put_part(found, row_with(row, (divisor,)), scaled(keys.times(above, falling), -often), below)
    return found


def counted(row):
    """Return a dict of the divisors of row, and how often each stands in it."""
    found = {}
    for divisor in row:
        found[divisor] = found.get(divisor, 0) + 1
    return found


def all_divisors(form):
    """Return a dict with each divisor of form, and how often it stands in a row at most."""
    found = {}
    for row in form:
        for divisor, often in counted(row).items():
            found[divisor] = max(found.get(divisor, 0), often)
    return found


def joined(keys, form):
    """Return the one part, as a triple of row, above and below, that form is, over all of its divisors."""
    below = 1
    for _, under in form.values():
        below = lcm(below, under)
    pieces = {row: scaled(above, below // under) for row, (above, under) in form.items()}
    found = all_divisors(form)
    joint = []
    for divisor in sorted(found):
        pieces = _brought_over(keys, pieces, divisor, found[divisor])
        joint.extend([divisor] * found[divisor])
    return tuple(joint), pieces.get((), {}), below


def _brought_over(keys, pieces, divisor, most):
    """Return pieces, a dict of what stands above each row, with divisor taken out of the rows.

    What has it less often than most above its row is multiplied by it as often as that lacks.
    """
    parted = {}
    for row, above in pieces.items():
        rest = tuple([other for other in row if other != divisor])
        parted.setdefault(rest, {})[row.count(divisor)] = above
    found = {}
    for rest, by_count in parted.items():
        total = {}
        for often in range(most + 1):
            # What has it often is to be multiplied by it so many times less.
            total = plus(keys.times(total, sum_of(divisor)), by_count.get(often, {}))
        if total:
            found[rest] = total
    return found
