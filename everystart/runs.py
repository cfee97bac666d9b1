"""The shares of ends from one start, and the share of all runs that come to an end."""

from everystart.changes import number_of, series_behind, total_of
from everystart.coefficients import coefficient_at
from everystart.fractions import lowest
from everystart.stands import crowd_behind, has_till


def share_of(program, start, end):
    """Return the share by which a run comes from start through program to end."""
    if has_till(program[1]):
        keys, form = series_behind(program, start)
        return coefficient_at(keys, form, end)
    weights, whole = crowd_behind(program, start)
    return lowest(weights.get(end, 0), whole)


def left_of(program, start):
    """Return the share by which a run comes from start through program at all."""
    if has_till(program[1]):
        keys, form = series_behind(program, start)
        return number_of(total_of(keys, form, len(start)))
    weights, whole = crowd_behind(program, start)
    return lowest(sum(list(weights.values())), whole)
