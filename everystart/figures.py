"""Figures of the runs that are left: known shares, means, and all outcomes."""

from everystart.changes import mean_sum_of, number_of, series_behind, total_of
from everystart.coefficients import coefficient_at
from everystart.errors import Never, Unfit
from everystart.fractions import lowest
from everystart.stands import crowd_behind, has_till


def known_share(program, start, end):
    """Return the chance that a run from start that is not dropped ends at end."""
    if has_till(program[1]):
        keys, form = series_behind(program, start)
        return _over_left(coefficient_at(keys, form, end), number_of(total_of(keys, form, len(start))))
    weights, _ = crowd_behind(program, start)
    return _over_left((weights.get(end, 0), 1), (sum(list(weights.values())), 1))


def mean_of(program, start, counter):
    """Return the mean of the number of counter at the end, of runs from start that are not dropped."""
    if has_till(program[1]):
        keys, form = series_behind(program, start)
        total = number_of(mean_sum_of(keys, form, len(start), counter))
        return _over_left(total, number_of(total_of(keys, form, len(start))))
    weights, _ = crowd_behind(program, start)
    total = sum([stand[counter] * weight for stand, weight in weights.items()])
    return _over_left((total, 1), (sum(list(weights.values())), 1))


def _over_left(fraction, left):
    """Return fraction divided by left, which is the share of the runs that are left."""
    if left[0] == 0:
        raise Never()
    return lowest(fraction[0] * left[1], fraction[1] * left[0])


def outcomes(program, start):
    """Return the ascending pairs of the stands where a run from start can end, and their shares."""
    if has_till(program[1]):
        raise Unfit()
    weights, whole = crowd_behind(program, start)
    return tuple([(stand, lowest(weights[stand], whole)) for stand in sorted(weights)])
