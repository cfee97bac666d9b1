"""What the steps of a program do to a form: to the shares of all stands, as one series.

The first names of a form stand for the counters, by their places; each step is a linear change.
"""

from everystart.bounds import MAX_TERMS
from everystart.dice import side_weights
from everystart.errors import TooMany
from everystart.fractions import lowest
from everystart.integers import power
from everystart.parts import (
    added_forms, cancelled, divisor_of, form_slope, gathered, moved_form, product_of, put_part, row_of, row_with,
    scaled_form, sum_of, without_form,
)
from everystart.sums import Keys, by_power, moved, plus, scaled, with_nought

# Powers stay below 2 ** POWER_BITS behind each step; what is multiplied on the way has fields for more.
POWER_BITS = 20
FIELD_BITS = 44
BRANCHING = ("if", "either")


def form_behind(keys, form, steps):
    """Return the form that steps, one behind another, make of form."""
    for step in steps:
        form = cancelled(keys, _form_behind_step(keys, form, step))
        _check(keys, form)
    return form


def difference_behind(keys, form, one, other):
    """Return what the steps one make of form, less what the steps other make of it.

    What both begin with is done once, and what both end with on the difference alone.
    """
    if one == other:
        return {}
    ahead = _shared_ahead(one, other)
    form = form_behind(keys, form, one[:ahead])
    one, other = one[ahead:], other[ahead:]
    behind = _shared_ahead(one[::-1], other[::-1])
    last = one[len(one) - behind:]
    between = _parting_behind(keys, form, one[:len(one) - behind], other[:len(other) - behind])
    return form_behind(keys, cancelled(keys, between), last)


def _parting_behind(keys, form, one, other):
    """Return the difference behind one and other, which begin and end with unlike steps."""
    if len(one) == 1 and len(other) == 1 and one[0][0] in BRANCHING and one[0][:2] == other[0][:2]:
        yes, no = _led_apart(keys, form, one[0])
        difference = difference_behind(keys, yes, one[0][2], other[0][2])
        return added_forms(difference, difference_behind(keys, no, one[0][3], other[0][3]))
    return without_form(form_behind(keys, form, one), form_behind(keys, form, other))


def _shared_ahead(one, other):
    """Return with how many like items two tuples begin."""
    many = 0
    for step, like in zip(one, other):
        if step != like:
            break
        many += 1
    return many


def _check(keys, form):
    """Check that form is not too much to go on with."""
    high = keys.key([keys.mask >> POWER_BITS << POWER_BITS] * keys.many)
    for row, (above, _) in form.items():
        keys.spend(len(row) + len(above))
        powers = list(above) + [key for divisor in row for key, _ in divisor]
        if any([key & high > 0 for key in powers]):
            raise TooMany(MAX_TERMS)


def _form_behind_step(keys, form, step):
    """Return the form that step makes of form."""
    word = step[0]
    if word == "set":
        return moved_form(gathered(keys, form, (step[1],)), step[2] * keys.unit(step[1]))
    if word == "add":
        return moved_form(form, step[2] * keys.unit(step[1]))
    if word == "less":
        return _lessened(keys, form, step[1])
    if word == "throw":
        return _thrown(keys, form, step[1], step[2])
    if word == "sum":
        return _summed(keys, form, step[1], step[2], step[3])
    if word == "seen":
        return _passing(keys, form, step[1])
    yes, no = _led_apart(keys, form, step)
    return added_forms(form_behind(keys, yes, step[2]), form_behind(keys, no, step[3]))


def _led_apart(keys, form, step):
    """Return what of form is led to the one branch of step, an "if" or "either", and what to the other."""
    if step[0] == "either":
        a, b = step[1]
        return scaled_form(form, a, b), scaled_form(form, b - a, b)
    passing = _passing(keys, form, step[1])
    return passing, without_form(form, passing)


def _passing(keys, form, test):
    """Return what of form passes test."""
    counter, word, number = test
    below = _below(keys, form, counter, number)
    return below if word == "below" else without_form(form, below)


def _parted_row(keys, row, place):
    """Return the divisors of row in which the name at place stands, and the others."""
    field = keys.field(place)
    parted = [(divisor, any([key & field > 0 for key, _ in divisor])) for divisor in row]
    return tuple([divisor for divisor, has in parted if has]), tuple([divisor for divisor, has in parted if not has])


def row_with_nought(keys, row, place):
    """Return the row of the divisors of row with 0 put for the name at place, and the number that is left."""
    return row_of([with_nought(keys, sum_of(divisor), place) for divisor in row])


def _lessened(keys, form, place):
    """Return form with 1 less of the counter at place, but 0 where it was 0.

    The part f0 with 0 stays; the rest, f - f0, is divided by the name: over both f's and f0's divisors.
    """
    unit = keys.unit(place)
    found = {}
    for row, (above, below) in form.items():
        nought = with_nought(keys, above, place)
        if not nought:
            put_part(found, row, moved(above, -unit), below)
            continue
        having, others = _parted_row(keys, row, place)
        nought_row, number = row_with_nought(keys, having, place)
        put_part(found, row_with(others, nought_row), nought, below * number)
        product = product_of(keys, having)
        rest = plus(
            keys.times(above, with_nought(keys, product, place)),
            scaled(keys.times(nought, product), -1),
        )
        put_part(found, row_with(row, nought_row), moved(rest, -unit), below * number)
    return found


def _below(keys, form, place, most):
    """Return what of form has less than most of the counter at place.

    Let a[i] be what stands in above by the power i of the name, and b[i] likewise in the product of the
    divisors that have it: what f has by i is (a[i] - b[1] * f[i - 1] - b[2] * f[i - 2] - ..) / b[0].
    """
    unit = keys.unit(place)
    found = {}
    for row, (above, below) in form.items():
        having, others = _parted_row(keys, row, place)
        nought_row, number = row_with_nought(keys, having, place)
        pieces = by_power(keys, above, place)
        product = by_power(keys, product_of(keys, having), place)
        uppers = []
        for exponent in range(most):
            uppers.append(_upper(keys, pieces.get(exponent, {}), product, uppers))
            under = row_with(others, nought_row * (exponent + 1))
            put_part(found, under, moved(uppers[exponent], exponent * unit), below * power(number, exponent + 1))
    return found


def _upper(keys, piece, product, uppers):
    """Return the next of uppers: what stands above product[0], once more for each of uppers, and once besides."""
    first = product[0]
    total = keys.times(piece, keys.raised(first, len(uppers)))
    for step in range(1, len(uppers) + 1):
        if step in product:
            factor = keys.times(product[step], keys.raised(first, step - 1))
            total = plus(total, scaled(keys.times(uppers[len(uppers) - step], factor), -1))
    return total


def _thrown(keys, form, place, die):
    """Return form with what a throw of die shows more of the counter at place."""
    upper, lower = _die_sums(keys, place, die)
    divisor, number = divisor_of(lower)
    more = (divisor,) if divisor != () else ()
    found = {}
    for row, (above, below) in form.items():
        put_part(found, row_with(row, more), keys.times(above, upper), below * number)
    return found


def _die_sums(keys, place, die):
    """Return the sums above and below of the series of die, by the name at place."""
    unit = keys.unit(place)
    word, held = die
    if word == "till":
        a, b = held
        return {0: a}, {0: b, unit: a - b}
    weights, whole = side_weights(held)
    return {number * unit: weight for number, weight in weights}, {0: whole}


def _summed(keys, form, place, die, other):
    """Return form with as many throws of die more of the counter at place as the one at other has.

    Each name at other becomes itself times the series of die, a sum upper over a sum lower.
    """
    upper, lower = _die_sums(keys, place, die)
    divisor, number = divisor_of(lower)
    found = {}
    for row, (above, below) in form.items():
        totals = []
        # How often lower stands above, less how often below.
        often = 0
        for held in row:
            total, most = _grown(keys, sum_of(held), other, upper, lower)
            totals.append(total)
            often += most
        led, factor = row_of(totals)
        above, most = _grown(keys, above, other, upper, lower)
        often -= most
        if often > 0:
            above = keys.times(above, keys.raised(lower, often))
        else:
            keys.bound(-often)
            factor = factor * power(number, -often)
            if divisor != ():
                led = row_with(led, (divisor,) * -often)
        put_part(found, led, above, below * factor)
    return found


def _grown(keys, total, place, upper, lower):
    """Return total with the name at place times upper over lower in its place, and its greatest power.

    What is returned is besides multiplied by lower as often as that power tells.
    """
    unit = keys.unit(place)
    pieces = by_power(keys, total, place)
    most = max(list(pieces))
    grown = {}
    for exponent, piece in pieces.items():
        factor = keys.times(keys.raised(upper, exponent), keys.raised(lower, most - exponent))
        grown = plus(grown, keys.times(moved(piece, exponent * unit), factor))
    return grown, most


def series_behind(program, start):
    """Return the keys, and the form of the shares of all stands, behind program from start."""
    names, steps = program
    keys = Keys(len(names), FIELD_BITS)
    return keys, form_behind(keys, {(): ({keys.key(start): 1}, 1)}, steps)


def total_of(keys, form, many):
    """Return the form of all shares of form together: with 1 put for its first many names."""
    return gathered(keys, form, list(range(many)))


def mean_sum_of(keys, form, many, counter):
    """Return the form of the sum of shares times the numbers of counter, with 1 put for the first many names."""
    others = [place for place in range(many) if place != counter]
    return gathered(keys, form_slope(keys, gathered(keys, form, others), counter), (counter,))


def number_of(form):
    """Return the fraction that form is, in which no name is left."""
    if form == {}:
        return 0, 1
    above, below = form[()]
    return lowest(above[0], below)
