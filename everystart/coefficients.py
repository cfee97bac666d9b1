"""Single coefficients of a form.

From the powers that are asked for each term above takes away its own, and each divisor then some of the
powers of its terms, as often as may be; the ways by which nothing is left are the coefficient. What is
left so far is told by keys, and stands in a dict, each with its weight.

Weights are integers: each name is taken times a number, its scale, so that what a divisor's terms are
taken times are integers, too. At the end the scales are divided out again.
"""

from math import comb, gcd

from everystart.fractions import added_fractions, lowest
from everystart.integers import power
from everystart.parts import counted


def coefficient_at(keys, form, powers):
    """Return the coefficient of form at powers."""
    wanted = keys.key(powers)
    total = (0, 1)
    for row, (above, below) in form.items():
        total = added_fractions(total, _part_coefficient(keys, row, above, below, wanted))
    return total


def _part_coefficient(keys, row, above, below, wanted):
    """Return the coefficient of above over row and below at the key wanted."""
    groups = list(counted(row).items())
    scales = _scales(keys, groups)
    limits = _limits(keys, groups)
    weights = {}
    for key, number in above.items():
        if keys.divides(key, wanted) and _keeps(keys, limits, wanted - key):
            weights[wanted - key] = number * _scale(keys, scales, key)
    under = below * _scale(keys, scales, wanted)
    while groups and weights:
        divisor, often = _next_group(keys, groups)
        groups = [group for group in groups if group[0] != divisor]
        first = divisor[0][1]
        steps = [(key, -number * _scale(keys, scales, key) // first) for key, number in divisor[1:]]
        further = _limits(keys, groups)
        if len(steps) == 1:
            weights = _stepped(keys, weights, steps[0], often, further)
        else:
            weights = _spread(keys, weights, steps, often, limits, further)
        limits = further
        under = under * power(first, often)
    return lowest(weights.get(0, 0), under)


def _scales(keys, groups):
    """Return for each name the number that it is taken times."""
    scales = [1] * keys.many
    for divisor, _ in groups:
        first = divisor[0][1]
        for key, number in divisor[1:]:
            lacking = first // gcd(first, number * _scale(keys, scales, key))
            places = [place for place in range(keys.many) if keys.at(key, place) > 0]
            scales[places[0]] = scales[places[0]] * lacking
    return scales


def _scale(keys, scales, key):
    """Return what the product of names with this key is taken times."""
    total = 1
    for place, scale in enumerate(scales):
        if scale > 1:
            total = total * power(scale, keys.at(key, place))
    return total


def _limits(keys, groups):
    """Return what limits the powers from which the divisors of groups can leave nothing.

    That is a pair: the fields of all names that stand in none of them; and a tuple of rows (place, other,
    a, b), such that the name at other has at most a / b times the power of the name at place, in each term
    of the divisors but the constant, and so in what the terms take away together.
    """
    terms = [keys.powers(key) for divisor, _ in groups for key, _ in divisor[1:]]
    unused = 0
    rows = []
    for other in range(keys.many):
        having = [term for term in terms if term[other] > 0]
        if not having:
            unused = unused | keys.field(other)
            continue
        for place in range(keys.many):
            if place != other and all([term[place] > 0 for term in having]):
                a, b = having[0][other], having[0][place]
                for term in having:
                    if term[other] * b > a * term[place]:
                        a, b = term[other], term[place]
                rows.append((place, other, a, b))
    return unused, rows


def _keeps(keys, limits, key):
    """Return whether key keeps limits."""
    unused, rows = limits
    if key & unused > 0:
        return False
    for place, other, a, b in rows:
        if keys.at(key, other) * b > keys.at(key, place) * a:
            return False
    return True


def _next_group(keys, groups):
    """Return the group to be taken next.

    As soon as no group is left that has a name, none of it may be left: that keeps the ways few. So the
    name is taken that stands in the fewest groups, and of these the one of two terms last.
    """
    best = groups
    for place in range(keys.many):
        field = keys.field(place)
        having = [group for group in groups if any([key & field > 0 for key, _ in group[0]])]
        if having and len(having) < len(best):
            best = having
    sizes = [len(divisor) for divisor, _ in best]
    return best[sizes.index(max(sizes))]


def _stepped(keys, weights, step, often, further):
    """Return the weights, within the limits further, behind so often a divisor with the one step."""
    size, worth = step
    unused, _ = further
    places = [place for place in range(keys.many) if keys.at(size, place) > 0]
    led = {}
    for key, weight in weights.items():
        most = min([keys.at(key, place) // keys.at(size, place) for place in places])
        # If a name of the step may not be left then only the most steps may do.
        for times in range(most if size & unused > 0 else 0, most + 1):
            rest = key - times * size
            if _keeps(keys, further, rest):
                factor = comb(often - 1 + times, times) * power(worth, times)
                led[rest] = led.get(rest, 0) + weight * factor
    return led


def _spread(keys, weights, steps, often, limits, further):
    """Return the weights, within the limits further, behind so often a divisor with steps.

    On the way limits are kept, which are those of this divisor and of all that are still to be taken.
    """
    reached = _reached(keys, weights, steps, limits)
    led = {key: weight for key, weight in weights.items()}
    order = sorted(reached, reverse=True)
    for _ in range(often):
        for key in order:
            weight = led.get(key, 0)
            if weight != 0:
                for step, worth in steps:
                    if keys.divides(step, key) and key - step in reached:
                        led[key - step] = led.get(key - step, 0) + weight * worth
    return {key: weight for key, weight in led.items() if weight != 0 and _keeps(keys, further, key)}


def _reached(keys, weights, steps, limits):
    """Return a dict of all that steps can leave of the keys of weights, within limits."""
    reached = {key: True for key in weights}
    waiting = list(weights)
    while waiting:
        key = waiting.pop()
        for step, _ in steps:
            if keys.divides(step, key) and key - step not in reached and _keeps(keys, limits, key - step):
                reached[key - step] = True
                waiting.append(key - step)
    return reached
