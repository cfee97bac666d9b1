"""Walks through the parts of a book, in no loop for more than so many rounds.

Crowds are those of everystart.stands.
"""

from math import lcm

from everystart.bookparts import done_steps, is_loop
from everystart.fractions import added_fractions, lowest
from everystart.stands import behind_steps, joined_crowds, lowest_crowd, parted


class Walk:
    """The parts of a book by name, how many rounds there are at most, and what was found out so far."""

    def __init__(self, book, many):
        self.parts = {part[1]: part for part in book[1]}
        self.many = many
        self.kept = {}

    def through(self, name, stand):
        """Return the crowd that goes through the part with this name from stand, and the share that is held up.

        What a part does from a stand does not hang on how the run came there: it is found out once,
        however often loops within loops come to it.
        """
        key = (name, stand)
        if key not in self.kept:
            part = self.parts[name]
            crowd = ({stand: 1}, 1)
            self.kept[key] = self.rounds(part, crowd) if is_loop(part) else self.behind(crowd, done_steps(part))
        return self.kept[key]

    def rounds(self, part, crowd):
        """Return the crowd that goes through the loop part from crowd, and the share that is held up."""
        done, held = ({}, 1), (0, 1)
        for _ in range(self.many):
            within, others = parted(crowd, part[2])
            done = joined_crowds(done, others)
            crowd, lost = self.behind(within, done_steps(part))
            held = added_fractions(held, lost)
        within, others = parted(crowd, part[2])
        weights, whole = joined_crowds(done, others)
        return lowest_crowd(weights, whole), added_fractions(held, lowest(sum(list(within[0].values())), within[1]))

    def behind(self, crowd, steps):
        """Return the crowd behind steps of the book from crowd, and the share that is held up."""
        held = (0, 1)
        for step in steps:
            if step[0] == "do":
                crowd, lost = self.behind_part(crowd, step[1])
                held = added_fractions(held, lost)
            else:
                crowd = behind_steps(crowd, (step,))
        return crowd, held

    def behind_part(self, crowd, name):
        """Return the crowd that goes through the part with this name from crowd, and the share that is held up."""
        weights, whole = crowd
        found = [(weight, self.through(name, stand)) for stand, weight in weights.items()]
        common = 1
        for _, (more, _) in found:
            common = lcm(common, more[1])
        led, held = {}, (0, 1)
        for weight, (more, lost) in found:
            ends, parts = more
            factor = weight * (common // parts)
            for end, worth in ends.items():
                led[end] = led.get(end, 0) + worth * factor
            held = added_fractions(held, lowest(weight * lost[0], whole * lost[1]))
        return lowest_crowd(led, whole * common), held
