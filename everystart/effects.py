"""The effect of a program on all starts at once, as a closed form."""

from everystart.changes import FIELD_BITS, POWER_BITS, form_behind, mean_sum_of, total_of
from everystart.closedforms import closed_form_of, form_error, form_of, greatest_in
from everystart.parts import cancelled, joined, without_form
from everystart.sums import Keys


def effect(program):
    """Return a closed form that stands for the effect of program."""
    keys, form = effect_form(program, 0)
    return closed_form_of(keys, form)


def effect_form(program, most):
    """Return keys that have room for powers up to most, and the form of the effect of program."""
    keys, form = start_form(len(program[0]), most)
    return keys, form_behind(keys, form, program[1])


def start_form(many, most):
    """Return keys that have room for powers up to most, and the form of no step at all, for many counters."""
    keys = Keys(2 * many, max(FIELD_BITS, most.bit_length() + FIELD_BITS - POWER_BITS))
    row = [((0, 1), (keys.unit(place) + keys.unit(many + place), -1)) for place in range(many)]
    return keys, {tuple(sorted(row)): ({0: 1}, 1)}


def effect_error(program, value):
    """Return None if value is a closed form of the effect of program, otherwise where it is not."""
    many = len(program[0])
    if form_error(2 * many, value) is not None:
        return "form"
    keys, form = effect_form(program, greatest_in(value))
    difference = without_form(form, form_of(keys, value))
    parting = first_powers(keys, difference)
    if parting is None:
        return None
    return "share", parting[0], parting[1]


def first_powers(keys, form):
    """Return the pair (start, end) that is first in order of those at which form is not 0; None if there is none.

    Above all divisors, each of which has the constant 1, the first powers are those of the series.
    """
    _, above, _ = joined(keys, cancelled(keys, form))
    many = keys.many // 2
    parted = [(powers[many:], powers[:many]) for powers in [keys.powers(key) for key in above]]
    if not parted:
        return None
    return min(parted, key=_place_in_order)


def _place_in_order(parting):
    """Return a tuple by which pairs (start, end) stand in order."""
    start, end = parting
    return sum(start), start, sum(end), end


def left_form(program):
    """Return a closed form whose coefficient at each start is what is left of the runs from there."""
    many = len(program[0])
    keys, form = effect_form(program, 0)
    return closed_form_of(Keys(many, keys.width), total_of(keys, form, many))


def mean_form(program, counter):
    """Return a closed form whose coefficient at each start is the sum of the ends' shares times counter's number."""
    many = len(program[0])
    keys, form = effect_form(program, 0)
    return closed_form_of(Keys(many, keys.width), mean_sum_of(keys, form, many, counter))
