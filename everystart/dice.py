"""Dice: those with sides, and those that count the misses ahead of a hit."""

from math import comb, gcd, lcm

from everystart.bounds import MAX_SIDE, MAX_SIDES
from everystart.fractions import is_chance, is_fraction, lowest
from everystart.integers import is_within, power


def die_error(value):
    """Return None if value is a die, otherwise the first fault."""
    if not isinstance(value, tuple) or len(value) != 2:
        return "form"
    word, held = value
    if word == "till":
        return None if is_chance(held) else "share"
    if word != "die" or not isinstance(held, tuple) or not 1 <= len(held) <= MAX_SIDES:
        return "form"
    return _sides_error(held)


def _sides_error(sides):
    """Return None if sides are those of a die, otherwise the first fault."""
    for place, side in enumerate(sides):
        if not _is_side(side):
            return "side", place
    for place in range(1, len(sides)):
        if sides[place][0] <= sides[place - 1][0]:
            return "order", place
    weights, whole = side_weights(sides)
    if sum([weight for _, weight in weights]) != whole:
        return "sum"
    return None


def _is_side(value):
    """Return whether value is a pair of a number and a share, as a side is."""
    if not isinstance(value, tuple) or len(value) != 2:
        return False
    number, share = value
    return is_within(number, 0, MAX_SIDE) and is_fraction(share) and share[0] > 0


def side_weights(sides):
    """Return the pairs (number, weight) of all sides, and the whole that the weights are parts of."""
    whole = 1
    for _, share in sides:
        whole = lcm(whole, share[1])
    return [(number, share[0] * (whole // share[1])) for number, share in sides], whole


def side_share(die, number):
    """Return the share with which a throw of die shows number."""
    return sum_share(die, 1, number)


def die_mean(die):
    """Return the mean of a throw of die."""
    word, held = die
    if word == "till":
        return held[1] - held[0], held[0]
    weights, whole = side_weights(held)
    return lowest(sum([number * weight for number, weight in weights]), whole)


def least_side(die):
    """Return the least number that a throw of die can show."""
    word, held = die
    if word == "till":
        return 0
    return held[0][0]


def sum_share(die, many, number):
    """Return the share with which many throws of die come to number together."""
    if number < 0:
        return 0, 1
    word, held = die
    if word == "till":
        return _misses_share(held, many, number)
    weights, whole = side_weights(held)
    for total, weight in throw_weights(weights, many, number):
        if total == number:
            return lowest(weight, power(whole, many))
    return 0, 1


def _misses_share(share, many, number):
    """Return the share with which many tills of share come to number misses together."""
    if many == 0:
        return (1, 1) if number == 0 else (0, 1)
    hit, whole = share
    # The misses may be spread over the many hits in so many ways.
    rows = comb(many - 1 + number, number)
    return lowest(rows * power(hit, many) * power(whole - hit, number), power(whole, many + number))


def throw_weights(weights, many, most):
    """Return the ascending pairs (number, weight) of all numbers to which many throws can come.

    weights are those of the sides; most is None, or the number beyond which none is asked for.
    """
    least, first = weights[0]
    if len(weights) == 1 or many == 0:
        return [(least * many, power(first, many))]
    # Numbers are counted in steps from the least one, so that step 0 has a weight.
    step = 0
    for number, _ in weights:
        step = gcd(step, number - least)
    rest = [((number - least) // step, weight) for number, weight in weights[1:]]
    steps = rest[-1][0] * many
    if most is not None:
        steps = min(steps, (most - least * many) // step)
    rows = _power_weights(first, rest, many, steps)
    return [(least * many + step * at, weight) for at, weight in enumerate(rows) if weight > 0]


def _power_weights(first, rest, many, steps):
    """Return the weights 0 to steps of a polynomial to the power many.

    The polynomial p has first at 0, and else the pairs (at, weight) of rest. If q is p to that
    power then p * q' is many * p' * q, which tells each weight of q by those ahead of it.
    """
    if steps < 0:
        return []
    rows = [power(first, many)]
    for place in range(1, steps + 1):
        total = 0
        for at, weight in rest:
            if at <= place:
                total += (many * at - place + at) * weight * rows[place - at]
        rows.append(total // (place * first))
    return rows
