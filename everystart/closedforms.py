"""Closed forms: what is one, its coefficients, and whether two stand for the same series."""

from everystart.coefficients import coefficient_at
from everystart.fractions import lowest
from everystart.parts import cancelled, divisor_of, joined, put_part, without_form
from everystart.polynomials import greatest_power, polynomial_error, polynomial_of, whole_sum
from everystart.sums import Keys

ROOM_BITS = 24


def form_error(n, value):
    """Return None if value is a closed form of n names, otherwise the first fault."""
    if not isinstance(value, tuple):
        return "form"
    for place, part in enumerate(value):
        if not isinstance(part, tuple) or len(part) != 2:
            return "part", place
    for place, (above, _) in enumerate(value):
        if polynomial_error(n, above) is not None or above == ():
            return "above", place
    for place, (_, below) in enumerate(value):
        if not isinstance(below, tuple) or not all([_is_divisor(n, divisor) for divisor in below]):
            return "below", place
    for place, (_, below) in enumerate(value):
        if list(below) != sorted(below):
            return "order", place
    return None


def _is_divisor(n, value):
    """Return whether value is a divisor of n names."""
    if polynomial_error(n, value) is not None or len(value) < 2:
        return False
    return value[0] == ((0,) * n, (1, 1))


def coefficient(n, form, powers):
    """Return the coefficient of form at powers."""
    most = max(greatest_in(form), max(powers, default=0))
    # A power may be taken as often as another one tells.
    keys = Keys(n, 2 * most.bit_length() + 2)
    return coefficient_at(keys, form_of(keys, form), powers)


def greatest_in(form):
    """Return the greatest of all powers in form, 0 if there are none."""
    found = [0]
    for above, below in form:
        found.append(greatest_power(above))
        found.extend([greatest_power(divisor) for divisor in below])
    return max(found)


def keys_for(n, forms):
    """Return keys of n names in which products of very many of the polynomials in forms have room."""
    most = max([greatest_in(form) for form in forms])
    return Keys(n, most.bit_length() + ROOM_BITS)


def same_series(n, one, other):
    """Return whether one and other stand for the same series."""
    keys = keys_for(n, (one, other))
    difference = without_form(form_of(keys, one), form_of(keys, other))
    _, above, _ = joined(keys, cancelled(keys, difference))
    return above == {}


def together(n, form):
    """Return a closed form of at most one part for the series of form."""
    keys = keys_for(n, (form,))
    row, above, below = joined(keys, cancelled(keys, form_of(keys, form)))
    found = {}
    put_part(found, row, above, below)
    return closed_form_of(keys, cancelled(keys, found))


def form_of(keys, closed):
    """Return the form that stands for the series of the closed form closed."""
    found = {}
    for above, below in closed:
        total, under = whole_sum(keys, above)
        row = []
        for divisor in below:
            # The divisor is its sum over whole, and the sum is number times what stands in the row.
            held, whole = whole_sum(keys, divisor)
            kept, number = divisor_of(held)
            row.append(kept)
            total = {key: worth * whole for key, worth in total.items()}
            under = under * number
        put_part(found, tuple(sorted(row)), total, under)
    return found


def closed_form_of(keys, form):
    """Return the closed form that stands for the series of form."""
    parts = []
    for row, (above, below) in form.items():
        divisors = []
        for divisor in row:
            first = divisor[0][1]
            below = below * first
            divisors.append(tuple([(keys.powers(key), lowest(number, first)) for key, number in divisor]))
        parts.append((polynomial_of(keys, above, below), tuple(sorted(divisors))))
    return tuple(sorted(parts))
