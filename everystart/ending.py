"""Whether a loop surely ends: measures, how much they rise by steps, and what is to be said of a loop."""

from everystart.dice import die_mean, least_side
from everystart.errors import Unfit
from everystart.fractions import added_fractions, compared, is_fraction, lowest
from everystart.integers import power
from everystart.loops import keeps


def measure_error(loop, value):
    """Return None if value is a measure of loop, otherwise the first fault."""
    if not isinstance(value, tuple) or len(value) != len(loop[0]):
        return "form"
    for place, weight in enumerate(value):
        if not is_fraction(weight) or weight[0] < 0:
            return "weight", place
    return None


def rise(steps, measure, lows, gap):
    """Return a bound for how much measure rises by steps, and what its counters are at least behind them."""
    total = (0, 1)
    for step in steps:
        bound, lows = _step_rise(step, measure, lows, gap)
        total = _added_bounds(total, bound)
    return total, lows


def falls(loop, measure):
    """Return the bound for how much measure rises by a round of loop."""
    names, (counter, word, number), steps = loop
    below = word == "below"
    lows = [0] * len(names)
    lows[counter] = 1 if below else number
    bound, _ = rise(steps, measure, tuple(lows), (counter, number) if below else None)
    return bound


def verdict(loop, told, measure):
    """Return the word for how well told and measure tell what loop does."""
    if told[0] != loop[0]:
        raise Unfit()
    return verdict_word(keeps(loop, told), falls(loop, measure))


def verdict_word(kept, bound):
    """Return the word for a loop whose told program is kept or not, and whose measure has this bound."""
    falling = bound is not None and bound[0] < 0
    if kept:
        return "does" if falling else "at most"
    return "other" if falling else "unsure"


def _added_bounds(one, other):
    """Return the sum of two bounds, None if one of them is None."""
    if one is None or other is None:
        return None
    return added_fractions(one, other)


def _scaled_bound(bound, factor):
    """Return bound times the fraction factor, None if bound is None."""
    if bound is None:
        return None
    return lowest(bound[0] * factor[0], bound[1] * factor[1])


def _greater_bound(one, other):
    """Return the greater one of two bounds, None if one of them is None."""
    if one is None or other is None:
        return None
    return other if compared(one, other) < 0 else one


def _step_rise(step, measure, lows, gap):
    """Return what rise returns for step alone."""
    word = step[0]
    if word == "if":
        return _if_rise(step, measure, lows, gap)
    if word == "either":
        return _either_rise(step, measure, lows, gap)
    if word == "seen":
        return (0, 1), _raised(lows, gap, step[1], step[1][1] == "below")
    counter = step[1]
    if _has_gap(gap, counter):
        change, low = _gap_change(step, lows[counter], gap[1])
    else:
        change, low = _number_change(step, lows, gap)
    # What weighs nothing does not rise, even where it has no bound.
    bound = (0, 1) if measure[counter][0] == 0 else _scaled_bound(change, measure[counter])
    return bound, lows[:counter] + (low,) + lows[counter + 1:]


def _has_gap(gap, counter):
    """Return whether of counter the gap is meant, in the place of the number."""
    return gap is not None and gap[0] == counter


def _number_change(step, lows, gap):
    """Return a bound for how much the number of step's counter rises, and what it is at least then."""
    word, counter = step[0], step[1]
    low = lows[counter]
    if word == "set":
        return (step[2] - low, 1), step[2]
    if word == "add":
        return (step[2], 1), low + step[2]
    if word == "less":
        return (-1 if low >= 1 else 0, 1), max(low - 1, 0)
    mean, least = die_mean(step[2]), least_side(step[2])
    if word == "throw":
        return mean, low + least
    many = 0 if _has_gap(gap, step[3]) else lows[step[3]]
    return (mean if mean[0] == 0 else None), low + least * many


def _gap_change(step, low, number):
    """Return a bound for how much the gap of step's counter to number rises, and what it is at least then."""
    word = step[0]
    if word == "set":
        held = max(number - step[2], 0)
        return (held - low, 1), held
    if word == "add":
        return (-min(step[2], low), 1), max(low - step[2], 0)
    if word == "less":
        return (1, 1), low
    if word == "throw":
        return _thrown_gap(step[2], low)
    return (0, 1), 0


def _thrown_gap(die, low):
    """Return the mean by which a throw of die makes a gap of low fall, below 0, and what is surely left of it."""
    word, held = die
    total = (0, 1)
    if word == "till":
        # The throw is at least this number with the chance that so many tries miss.
        for number in range(1, low + 1):
            missed = power(held[1] - held[0], number), power(held[1], number)
            total = added_fractions(total, lowest(-missed[0], missed[1]))
        return total, 0
    for number, share in held:
        total = added_fractions(total, lowest(-share[0] * min(number, low), share[1]))
    return total, max(low - held[-1][0], 0)


def _if_rise(step, measure, lows, gap):
    """Return what rise returns for the "if" step alone."""
    test = step[1]
    found = []
    for branch, below in ((step[2], test[1] == "below"), (step[3], test[1] != "below")):
        if _can_be(lows, gap, test, below):
            found.append(rise(branch, measure, _raised(lows, gap, test, below), gap))
    # One of the branches always can be.
    bound, behind = found[0]
    for other, others in found[1:]:
        bound = _greater_bound(bound, other)
        behind = _least(behind, others)
    return bound, behind


def _either_rise(step, measure, lows, gap):
    """Return what rise returns for the "either" step alone."""
    a, b = step[1]
    bound, behind = rise(step[2], measure, lows, gap)
    other, others = rise(step[3], measure, lows, gap)
    return _added_bounds(_scaled_bound(bound, (a, b)), _scaled_bound(other, (b - a, b))), _least(behind, others)


def _least(lows, others):
    """Return the lesser one of each two of lows and others."""
    return tuple([min(low, other) for low, other in zip(lows, others)])


def _can_be(lows, gap, test, below):
    """Return whether test's counter can be below test's number, or from it on if below is False."""
    counter, _, number = test
    low = lows[counter]
    if _has_gap(gap, counter):
        return below or low <= max(gap[1] - number, 0)
    return low < number or not below


def _raised(lows, gap, test, below):
    """Return lows, as far as is known if test's counter is below test's number, or from it on."""
    counter, _, number = test
    low = lows[counter]
    if _has_gap(gap, counter):
        if below:
            low = max(low, gap[1] + 1 - number)
    elif not below:
        low = max(low, number)
    return lows[:counter] + (low,) + lows[counter + 1:]
