"""A plain runner: goes through a program stand by stand, as [C1] tells, with Fractions or with floats."""

import itertools
from fractions import Fraction
from math import comb

MAX_ENDS = 2000


class TooManyStands(Exception):
    """Behind some step there are more than MAX_ENDS stands."""


class Runner:
    """Runs exactly; or, if cut is a number, with floats and with at most so many misses at each till."""

    def __init__(self, cut=None, bound=True):
        self.cut = cut
        self.bound = bound
        self.sums = {}

    def number(self, fraction):
        return Fraction(*fraction) if self.cut is None else fraction[0] / fraction[1]

    def run(self, program, start):
        """Return the share of each stand behind program."""
        return self.behind({start: self.number((1, 1))}, program[1])

    def behind(self, stands, steps):
        for step in steps:
            stands = self.step(stands, step)
            if self.bound and len(stands) > MAX_ENDS:
                raise TooManyStands()
        return stands

    def step(self, stands, step):
        if step[0] == "if":
            passing = {stand: share for stand, share in stands.items() if passes(stand, step[1])}
            others = {stand: share for stand, share in stands.items() if not passes(stand, step[1])}
            return self.both(passing, others, step)
        if step[0] == "either":
            share = self.number(step[1])
            one = {stand: worth * share for stand, worth in stands.items()}
            other = {stand: worth * (1 - share) for stand, worth in stands.items()}
            return self.both(one, other, step)
        found = {}
        for stand, share in stands.items():
            for other, part in self.leads(stand, step):
                found[other] = found.get(other, 0) + share * part
                if self.bound and len(found) > MAX_ENDS:
                    raise TooManyStands()
        return found

    def both(self, one, other, step):
        found = dict(self.behind(one, step[2]))
        for stand, share in self.behind(other, step[3]).items():
            found[stand] = found.get(stand, 0) + share
        return found

    def leads(self, stand, step):
        """Return the stands to which step leads from stand, with their shares."""
        word, one = step[0], self.number((1, 1))
        if word == "seen":
            return [(stand, one)] if passes(stand, step[1]) else []
        counter = step[1]
        number = stand[counter]
        if word == "set":
            return [(with_number(stand, counter, step[2]), one)]
        if word == "add":
            return [(with_number(stand, counter, number + step[2]), one)]
        if word == "less":
            return [(with_number(stand, counter, max(0, number - 1)), one)]
        many = 1 if word == "throw" else stand[step[3]]
        return [(with_number(stand, counter, number + more), share) for more, share in self.thrown(step[2], many)]

    def thrown(self, die, many):
        """Return the sums to which many throws of die come, with their shares."""
        if (die, many) not in self.sums:
            self.sums[die, many] = self.misses(die, many) if die[0] == "till" else self.sided(die, many)
        return self.sums[die, many]

    def misses(self, die, many):
        share = self.number(die[1])
        if many == 0:
            return [(0, share / share)]
        # So many tries that hit have about as many misses more.
        return [(number, comb(many - 1 + number, number) * share ** many * (1 - share) ** number)
                for number in range(self.cut + 5 * many)]

    def sided(self, die, many):
        # A throw that shows 0 for sure, or one number, is not gone through throw by throw.
        if len(die[1]) == 1:
            return [(die[1][0][0] * many, self.number((1, 1)))]
        if self.bound and many > MAX_ENDS:
            raise TooManyStands()
        shares = {0: self.number((1, 1))}
        for _ in range(many):
            led = {}
            for number, share in shares.items():
                for side, part in die[1]:
                    led[number + side] = led.get(number + side, 0) + share * self.number(part)
            shares = led
        return list(shares.items())


def passes(stand, test):
    counter, word, number = test
    return stand[counter] < number if word == "below" else stand[counter] >= number


def with_number(stand, counter, number):
    return stand[:counter] + (number,) + stand[counter + 1:]


def in_order(stands):
    """Return the stands, by their sums, and those of one sum as tuples."""
    return sorted(stands, key=lambda stand: (sum(stand), stand))


def starts_to(many, most):
    """Return all starts of many counters whose numbers come to at most so many together, in order."""
    return in_order(stand for stand in itertools.product(range(most + 1), repeat=many) if sum(stand) <= most)


def first_parting(one, other, starts):
    """Return the first of starts, and for it the first end, at which two programs without tills part, or None."""
    runner = Runner(bound=False)
    for start in starts:
        left, right = runner.run(one, start), runner.run(other, start)
        ends = in_order(end for end in {**left, **right} if left.get(end, 0) != right.get(end, 0))
        if ends:
            return start, ends[0]
    return None
