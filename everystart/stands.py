"""Runs through a program in which no die is thrown till it hits: stand by stand.

A crowd is a pair: a dict with the weight, above 0, of each stand where a run can be, and the whole that
the weights are parts of.
"""

from math import gcd, lcm

from everystart.bounds import MAX_ENDS
from everystart.dice import side_weights, throw_weights
from everystart.errors import TooMany
from everystart.integers import power
from everystart.programs import listed


def has_till(steps):
    """Return whether a die of the kind "till" stands in steps."""
    for _, step in listed(steps):
        if (step[0] == "throw" or step[0] == "sum") and step[2][0] == "till":
            return True
    return False


def crowd_behind(program, start):
    """Return the crowd behind all steps of program, from start."""
    return behind_steps(({start: 1}, 1), program[1])


def behind_steps(crowd, steps):
    """Return the crowd behind steps."""
    for step in steps:
        weights, whole = _behind_step(crowd, step)
        crowd = lowest_crowd(weights, whole)
    return crowd


def _check(weights):
    """Check that a crowd is not at too many stands."""
    if len(weights) > MAX_ENDS:
        raise TooMany(MAX_ENDS)


def lowest_crowd(weights, whole):
    """Return the crowd of weights and whole, not at too many stands, without a common divisor."""
    _check(weights)
    divisor = whole
    for weight in weights.values():
        if divisor == 1:
            return weights, whole
        divisor = gcd(divisor, weight)
    return {stand: weight // divisor for stand, weight in weights.items()}, whole // divisor


def _behind_step(crowd, step):
    """Return the crowd behind step."""
    word = step[0]
    if word == "throw":
        return _thrown(crowd, step[1], step[2], None)
    if word == "sum":
        return _thrown(crowd, step[1], step[2], step[3])
    if word == "either":
        a, b = step[1]
        yes = behind_steps(_scaled(crowd, a, b), step[2])
        return joined_crowds(yes, behind_steps(_scaled(crowd, b - a, b), step[3]))
    if word == "if" or word == "seen":
        passing, others = parted(crowd, step[1])
        if word == "seen":
            return passing
        yes = behind_steps(passing, step[2])
        return joined_crowds(yes, behind_steps(others, step[3]))
    return _moved(crowd, step)


def _moved(crowd, step):
    """Return the crowd behind step, which leads each stand to one."""
    weights, whole = crowd
    counter = step[1]
    led = {}
    for stand, weight in weights.items():
        number = stand[counter]
        if step[0] == "set":
            number = step[2]
        elif step[0] == "add":
            number = number + step[2]
        else:
            number = max(number - 1, 0)
        other = _changed(stand, counter, number)
        led[other] = led.get(other, 0) + weight
    return led, whole


def _changed(stand, counter, number):
    """Return stand with number for counter."""
    return stand[:counter] + (number,) + stand[counter + 1:]


def _thrown(crowd, counter, die, by):
    """Return the crowd behind throws of die for counter: one, or if by is a counter as many as it has."""
    weights, whole = crowd
    sides, parts = side_weights(die[1])
    counted = {}
    for stand in weights:
        counted.setdefault(1 if by is None else stand[by], []).append(stand)
    most = max(list(counted), default=0)
    if len(sides) > 1 and most >= MAX_ENDS:
        # So many throws come to one number more than they are, at least.
        raise TooMany(MAX_ENDS)
    led = {}
    # The most throws first: if they lead to too many stands, the others need not be reckoned out.
    for many in sorted(counted, reverse=True):
        lacking = power(parts, most - many)
        sums = [(number, weight * lacking) for number, weight in throw_weights(sides, many, None)]
        for stand in counted[many]:
            for number, factor in sums:
                other = _changed(stand, counter, stand[counter] + number)
                led[other] = led.get(other, 0) + weights[stand] * factor
            _check(led)
    return led, whole * power(parts, most)


def _scaled(crowd, a, b):
    """Return crowd with its weights times the fraction a / b."""
    weights, whole = crowd
    return {stand: weight * a for stand, weight in weights.items()}, whole * b


def joined_crowds(one, other):
    """Return the crowd of two crowds together."""
    whole = lcm(one[1], other[1])
    led = {stand: weight * (whole // one[1]) for stand, weight in one[0].items()}
    for stand, weight in other[0].items():
        led[stand] = led.get(stand, 0) + weight * (whole // other[1])
    return led, whole


def passes(stand, test):
    """Return whether stand passes test."""
    counter, word, number = test
    return (stand[counter] < number) == (word == "below")


def parted(crowd, test):
    """Return the crowd of the stands of crowd that pass test, and that of the others."""
    weights, whole = crowd
    passing = {}
    others = {}
    for stand, weight in weights.items():
        if passes(stand, test):
            passing[stand] = weight
        else:
            others[stand] = weight
    return (passing, whole), (others, whole)
