"""[A3], [E3], [E5] and [E6]: whether programs do the same from every start, and what hangs on what."""

import unittest
from fractions import Fraction

from everystart import alikeness
from everystart.alikeness import alike, hangs
from everystart.closedforms import same_series
from everystart.effects import effect, effect_error
from everystart.errors import TooMany, Unfit
from everystart.programs import put_behind
from everystart.runs import share_of
from tests import drawn
from tests.drawn import pair, worth
from tests.kinds import KindsCase
from tests.runner import Runner, first_parting, starts_to

COIN = ("die", ((0, (1, 2)), (1, (1, 2))))
ONE, TWO = ("x",), ("x", "y")
NOTHING, FLIP = (ONE, ()), (ONE, (("throw", 0, COIN),))
POUR = (TWO, (("sum", 0, COIN, 1), ("set", 1, 0)))
SIMPLE = ("set", "add", "less", "throw")


def one_step(draw, many, counter, words=SIMPLE):
    """Return a step by one of words, of just this counter."""
    word = draw.choice(words)
    if word == "set":
        return "set", counter, draw.randint(0, 4)
    if word == "add":
        return "add", counter, draw.randint(1, 3)
    if word == "less":
        return "less", counter
    die = drawn.die(draw, tills=0.2, most_sides=3, most_number=3)
    return ("throw", counter, die) if word == "throw" else ("sum", counter, die, draw.randrange(many))


def few_steps(draw, many, nodes, **more):
    """Return some steps without a sum."""
    return drawn.Steps(draw, many, sums=0, most_number=4, most_test=3, most_sides=2, most_side=3, **more).steps(nodes)


def chosen(counter, sides):
    """Return steps that choose one of sides, pairs of a number and a Fraction, and add its number."""
    number, share = sides[0]
    step = (("add", counter, number),) if number else ()
    if len(sides) == 1:
        return step
    rest = [(other, part / (1 - share)) for other, part in sides[1:]]
    return (("either", pair(share), step, chosen(counter, rest)),)


def known_sum(draw, many):
    by, counter, number = draw.randrange(many), draw.randrange(many), draw.randint(0, 4)
    die = drawn.die(draw, most_sides=3, most_number=3)
    ahead = (("set", by, number),)
    return ahead + (("sum", counter, die, by),), ahead + (("throw", counter, die),) * number


def chosen_throw(draw, many):
    counter, die = draw.randrange(many), drawn.sided(draw, 4, 5)
    return (("throw", counter, die),), chosen(counter, [(number, worth(share)) for number, share in die[1]])


def either_order(draw, many):
    if many == 1:
        return chosen_throw(draw, many)
    one, other = one_step(draw, many, 0), one_step(draw, many, 1)
    return (one, other), (other, one)


def forgotten(draw, many):
    counter = draw.randrange(many)
    ending = ("set", counter, draw.randint(0, 4))
    return (one_step(draw, many, counter, SIMPLE + ("sum",)), ending), (ending,)


def like_branches(draw, many):
    steps = few_steps(draw, many, 2, tills=1)
    chooser = draw.choice((("if", drawn.test_of(draw, many)), ("either", drawn.chance(draw))))
    return (chooser + (steps, steps),), steps


def turned_branches(draw, many):
    yes, no = few_steps(draw, many, 2, tills=1), few_steps(draw, many, 2)
    if draw.random() < 0.5:
        share = drawn.chance(draw)
        return (("either", share, yes, no),), (("either", pair(1 - worth(share)), no, yes),)
    counter, word, number = drawn.test_of(draw, many)
    turned = counter, "from" if word == "below" else "below", number
    return (("if", (counter, word, number), yes, no),), (("if", turned, no, yes),)


def added_and_taken(draw, many):
    counter, number = draw.randrange(many), draw.randint(1, 3)
    return (("add", counter, number),) + (("less", counter),) * number, ()


def one_more(draw, many):
    counter, till = draw.randrange(many), ("till", drawn.chance(draw))
    throw = ("throw", counter, till)
    return (throw,), (("either", till[1], (), (("add", counter, 1), throw)),)


def certain_sum(draw, many):
    counter, by = draw.randrange(many), draw.randrange(many)
    if counter == by:
        return (("sum", counter, ("die", ((3, (1, 1)),)), by),), (("sum", counter, ("die", ((1, (1, 1)),)), by),) * 2
    die = "die", ((1, (1, 1)),)
    return (("sum", counter, ("die", ((2, (1, 1)),)), by),), (("sum", counter, die, by),) * 2


def seen_twice(draw, many):
    counter, word, number = drawn.test_of(draw, many, 3)
    weaker = counter, word, number + (1 if word == "below" else 0)
    return (("seen", weaker), ("seen", (counter, word, number))), (("seen", (counter, word, number)),)


KINDS = (
    known_sum, chosen_throw, either_order, forgotten, like_branches, turned_branches, added_and_taken, one_more, certain_sum, seen_twice,
)


def placed(draw, many, one, other):
    """Return one and other as they are, or both with the same steps ahead, behind or around."""
    ahead, behind = few_steps(draw, many, draw.randint(0, 2)), few_steps(draw, many, draw.randint(0, 2))
    where = draw.choice(("alone", "ahead", "behind", "both", "if", "either"))
    if where == "alone":
        return one, other
    if where == "if":
        test = drawn.test_of(draw, many)
        return (("if", test, one, ahead),) + behind, (("if", test, other, ahead),) + behind
    if where == "either":
        share = drawn.chance(draw)
        return (("either", share, ahead, one),) + behind, (("either", share, ahead, other),) + behind
    ahead, behind = () if where == "behind" else ahead, () if where == "ahead" else behind
    return ahead + one + behind, ahead + other + behind


def changed(draw, many, steps):
    """Return steps with one thing changed: one left out, doubled, exchanged, put in, or with another number."""
    steps, place = list(steps), draw.randrange(max(1, len(steps)))
    how = draw.choice(("out", "double", "in", "exchange", "number"))
    if not steps or how == "in":
        steps.insert(place, one_step(draw, many, draw.randrange(many)))
    elif how == "out":
        steps.pop(place)
    elif how == "double":
        steps.insert(place, steps[place])
    elif how == "exchange":
        steps[place:place + 2] = steps[place:place + 2][::-1]
    else:
        steps[place] = renumbered(draw, steps[place])
    return tuple(steps)


def renumbered(draw, step):
    """Return step with another number, test or share in it."""
    if step[0] in ("set", "add"):
        return step[:2] + (step[2] + 1,)
    if step[0] == "either":
        return ("either", drawn.chance(draw)) + step[2:]
    if step[0] in ("if", "seen"):
        counter, word, number = step[1]
        return (step[0], (counter, word, number % 4 + 1)) + step[2:]
    if step[0] == "less":
        return "add", step[1], 1
    return step[:2] + (drawn.sided(draw, 3, 3),) + step[3:]


def tilled(steps):
    return "'till'" in repr(steps)


class CallsTest(KindsCase):
    def test_by_place_and_by_name_twice(self):
        self.check_calls(alikeness, [
            ("alike", ["one", "other"], [FLIP, NOTHING], ((0,), (0,))),
            ("alike", ["one", "other"], [POUR, POUR], None),
            ("hangs", ["program", "last", "first"], [POUR, 0, 1], ((0, 1), 0)),
            ("hangs", ["program", "last", "first"], [POUR, 1, 0], None),
        ])

    def test_unlike_many_counters(self):
        for one, other in ((1, 2), (2, 1), (1, 3), (3, 1), (2, 3), (3, 2)):
            for steps in ((), (("less", 0),)):
                self.check_raises(Unfit(), alike, (drawn.NAMES[:one], steps), (drawn.NAMES[:other], steps))
                self.check_raises(Unfit(), alike, other=(drawn.NAMES[:one], ()), one=(drawn.NAMES[:other], steps))

    def test_names_do_not_matter(self):
        draw = drawn.drawing("names")
        for _ in range(200):
            one, other = drawn.program(draw, 2, 4, most_number=3, most_side=3), drawn.program(draw, 2, 4, most_number=3, most_side=3)
            told = alike(one, other)
            for names in (("y", "x"), ("a", "b"), ("long", "longer")):
                self.check_same(alike((names, one[1]), other), told)
                self.check_same(alike(one, (names, other[1])), told)
                self.assertIsNone(alike(one, (names, one[1])))

    def test_counters_are_told_by_their_places(self):
        grow_x, grow_y = (("x", "y"), (("add", 0, 1),)), (("y", "x"), (("add", 1, 1),))
        self.check_same(alike(grow_x, grow_y), ((0, 0), (0, 1)))
        self.assertIsNone(alike(grow_x, (("y", "x"), (("add", 0, 1),))))


class SameTest(KindsCase):
    """Pairs that do the same by an argument known ahead."""

    def pairs(self, seed, rows):
        draw = drawn.drawing(seed)
        for row in range(rows):
            many = draw.choice((1, 2))
            one, other = KINDS[row % len(KINDS)](draw, many)
            yield draw, many, one, other

    def test_alike_either_way_round(self):
        for draw, many, one, other in self.pairs("same", 4000):
            one, other = placed(draw, many, one, other)
            one, other = (drawn.NAMES[:many], one), (drawn.NAMES[:many], other)
            self.assertIsNone(alike(one, other), (one, other))
            self.assertIsNone(alike(other, one), (one, other))

    def test_with_one_thing_changed(self):
        parted = 0
        for draw, many, one, other in self.pairs("changed", 3000):
            one, other = placed(draw, many, one, other)
            one, other = (drawn.NAMES[:many], changed(draw, many, one)), (drawn.NAMES[:many], other)
            if tilled((one, other)):
                continue
            parted += self.check_parting(one, other, 5 if many == 1 else 3)
        self.assertGreater(parted, 1000)

    def check_parting(self, one, other, most):
        """Check where one and other part against running from all small starts; return whether they do."""
        found, told = alike(one, other), first_parting(one, other, starts_to(len(one[0]), most))
        self.check_same(alike(other, one), found)
        if told is None and found is not None:
            self.assertGreater(sum(found[0]), most)
            told = first_parting(one, other, [found[0]])
        self.check_same(found, told)
        return found is not None

    def test_drawn_pairs(self):
        draw = drawn.drawing("pairs")
        for _ in range(1200):
            many = draw.choice((1, 2, 2, 3))
            more = {"most_number": 4, "most_side": 3, "most_sides": 3}
            steps = drawn.program(draw, many, draw.randint(0, 5), **more)[1]
            other = drawn.program(draw, many, draw.randint(0, 4), **more)[1] if draw.random() < 0.3 else changed(draw, many, steps)
            if not tilled(other):
                self.check_parting((drawn.NAMES[:many], steps), (drawn.NAMES[:many], other), 4 if many == 1 else 2)

    def test_branches_by_one_test_or_share(self):
        """Branches that are parted alike, with unlike steps in them, ahead and behind."""
        draw = drawn.drawing("one chooser")
        words = ("add", "less", "set", "throw")
        for _ in range(900):
            many = draw.choice((1, 2))
            chooser = draw.choice((("if", drawn.test_of(draw, many)), ("either", drawn.chance(draw))))
            rows = []
            for _ in range(2):
                ahead, yes, no, behind = [few_steps(draw, many, draw.choice((0, 0, 1)), words=words) for _ in range(4)]
                rows.append((drawn.NAMES[:many], ahead + (chooser + (yes, no),) + behind))
            self.check_parting(rows[0], rows[1], 5 if many == 1 else 3)

    def test_tills_with_one_thing_changed(self):
        """The first parting is one of share_of, and there is none ahead of it within small bounds."""
        parted = 0
        for draw, many, one, other in self.pairs("changed tills", 1500):
            one, other = placed(draw, many, one, other)
            if not tilled((one, other)):
                continue
            one, other = (drawn.NAMES[:many], changed(draw, many, one)), (drawn.NAMES[:many], other)
            found = alike(one, other)
            self.check_same(alike(other, one), found)
            for start in starts_to(many, 2):
                for end in starts_to(many, 4):
                    if found is None or (sum(start), start, sum(end), end) < (sum(found[0]), found[0], sum(found[1]), found[1]):
                        self.check_same(share_of(one, start, end), share_of(other, start, end))
            if found is not None:
                parted += 1
                self.assertNotEqual(share_of(one, *found), share_of(other, *found))
        self.assertGreater(parted, 150)


class FarOutTest(KindsCase):
    """Programs that part from great starts or at great ends alone."""

    def beyond(self, number, steps):
        """Return steps that are done where x has more than number, y being forgotten."""
        copied = (("set", 1, 0), ("sum", 1, ("die", ((1, (1, 1)),)), 0))
        return copied + (("less", 1),) * number + (("if", (1, "from", 1), steps, ()), ("set", 1, 0))

    def test_great_starts(self):
        forget = (TWO, (("set", 1, 0),))
        for number in (1, 4, 9, 21, 30):
            self.check_same(alike((TWO, self.beyond(number, (("add", 0, 1),))), forget), ((number + 1, 0), (number + 1, 0)))
            self.check_same(alike(forget, (TWO, self.beyond(number, (("less", 0),)))), ((number + 1, 0), (number, 0)))
            self.check_same(alike(forget, (TWO, self.beyond(number, (("throw", 0, COIN),)))), ((number + 1, 0), (number + 1, 0)))
            self.assertIsNone(alike((TWO, self.beyond(number, (("less", 1),))), forget))
            dropped = (TWO, self.beyond(number, (("seen", (1, "below", 1)),)))
            self.check_same(alike(dropped, forget), ((number + 1, 0), (number + 1, 0)))

    def test_great_starts_of_one_counter(self):
        for number in (1, 3, 12, 39):
            down = (ONE, (("less", 0),) * number)
            self.check_same(alike(down, (ONE, (("set", 0, 0),))), ((number + 1,), (0,)))
            self.check_same(alike(down, (ONE, (("less", 0),) * (number + 1))), ((number + 1,), (0,)))
        self.check_same(alike((ONE, (("seen", (0, "below", 4)),)), NOTHING), ((4,), (4,)))

    def test_great_ends(self):
        waited = (("set", 0, 0), ("throw", 0, ("till", (1, 2))))
        for number in (1, 7, 20, 35):
            one = (TWO, waited + (("set", 1, 0),))
            self.check_same(alike((TWO, waited + self.beyond(number, (("add", 0, 1),))), one), ((0, 0), (number + 1, 0)))
            self.check_same(alike(one, (TWO, waited + self.beyond(number, (("seen", (0, "below", 1)),)))), ((0, 0), (number + 1, 0)))
            self.check_same(alike(one, (TWO, waited + self.beyond(number, (("less", 0),)))), ((0, 0), (number, 0)))

    def test_the_order_of_starts_and_ends(self):
        die = "die", ((0, (1, 1)),)
        nothing = (TWO, ())
        rows = [
            ((("if", (0, "from", 2), (("add", 0, 1),), ()),), ((2, 0), (2, 0))), ((("if", (0, "from", 1), (("if", (1, "from", 1), (("less", 1),), ()),), ()),), ((1, 1), (1, 0))),
            ((("if", (0, "from", 1), (("add", 1, 2),), ()), ("if", (1, "from", 4), (), (("sum", 0, die, 1),))), ((1, 0), (1, 0))),
            ((("if", (1, "from", 1), (("set", 0, 9),), ()),), ((0, 1), (0, 1))), ((("if", (0, "from", 1), (("set", 0, 0), ("add", 1, 1)), ()),), ((1, 0), (0, 1))),
            ((("if", (1, "from", 1), (("less", 1), ("add", 0, 1)), ()),), ((0, 1), (0, 1))), ((("either", (1, 2), (("add", 0, 2),), (("add", 1, 2),)),), ((0, 0), (0, 0))),
        ]
        for steps, told in rows:
            self.check_same(alike((TWO, steps), nothing), told)
            self.check_same(alike(nothing, (TWO, steps)), told)
            self.check_same(first_parting(nothing, (TWO, steps), starts_to(2, 3)), told)


class HangsTest(KindsCase):
    def spread(self, program, start, last):
        found = {}
        for end, share in Runner(bound=False).run(program, start).items():
            found[end[last]] = found.get(end[last], 0) + share
        return found

    def by_running(self, program, last, first, starts):
        """Return the first of starts, and for it the least number, at which the spread is not as from nothing of first."""
        for start in starts:
            nought = start[:first] + (0,) + start[first + 1:]
            here, there = self.spread(program, start, last), self.spread(program, nought, last)
            numbers = [number for number in {**here, **there} if here.get(number, 0) != there.get(number, 0)]
            if numbers:
                return start, min(numbers)
        return None

    def test_drawn_programs(self):
        draw = drawn.drawing("hangs")
        hanging = 0
        for _ in range(900):
            many = draw.choice((1, 2, 2, 3))
            program = drawn.program(draw, many, draw.randint(0, 5), most_number=3, most_side=2, most_sides=2)
            most = 5 if many == 1 else 3
            for last in range(many):
                for first in range(many):
                    found, told = hangs(program, last, first), self.by_running(program, last, first, starts_to(many, most))
                    if told is None and found is not None:
                        self.assertGreater(sum(found[0]), most)
                        told = self.by_running(program, last, first, [found[0]])
                    self.check_same(found, told)
                    hanging += found is not None
        self.assertGreater(hanging, 800)

    def test_a_counter_on_its_own_start(self):
        self.check_same(hangs(NOTHING, 0, 0), ((1,), 0))
        for number in (1, 3, 20, 39):
            self.check_same(hangs((ONE, (("less", 0),) * number), 0, 0), ((number + 1,), 0))
        for steps in ((("set", 0, 3),), (("set", 0, 0), ("throw", 0, ("till", (1, 3)))), (("seen", (0, "from", 1)), ("seen", (0, "below", 1)))):
            self.assertIsNone(hangs((ONE, steps), 0, 0))
        self.check_same(hangs((ONE, (("throw", 0, ("till", (1, 3))),)), 0, 0), ((1,), 0))

    def test_dropped_runs_hang(self):
        program = (TWO, (("seen", (1, "below", 2)), ("set", 0, 4)))
        self.check_same(hangs(program, 0, 1), ((0, 2), 4))
        self.assertIsNone(hangs(program, 0, 0))

    def test_tills(self):
        program = (TWO, (("set", 0, 0), ("sum", 0, ("till", (1, 2)), 1), ("set", 1, 0), ("throw", 1, ("till", (1, 3)))))
        self.check_same([hangs(program, last, first) for last in (0, 1) for first in (0, 1)], [None, ((0, 1), 0), None, None])


class LawsTest(KindsCase):
    """What [E6] tells."""

    def drawn_pair(self, draw, many, nodes):
        more = {"most_number": 3, "most_test": 2, "most_sides": 2, "most_side": 3, "tills": 1}
        one = drawn.program(draw, many, draw.randint(0, nodes), **more)
        return one, (one[0], changed(draw, many, one[1]))

    def test_alike_just_where_the_closed_forms_are_the_same(self):
        draw = drawn.drawing("same series")
        for _ in range(500):
            many = draw.choice((1, 2))
            one, other = self.drawn_pair(draw, many, 3)
            found = alike(one, other)
            self.check_same(found is None, same_series(2 * many, effect(one), effect(other)))
            error = effect_error(one, effect(other))
            self.check_same(found, error if error is None else error[1:])
            self.assertIsNone(alike(one, one))

    def test_of_three_alike_ones(self):
        draw = drawn.drawing("three")
        for row in range(300):
            many = draw.choice((1, 2))
            names = drawn.NAMES[:many]
            one, other = KINDS[row % len(KINDS)](draw, many)
            third = (("either", drawn.chance(draw), other, one),)
            self.assertIsNone(alike((names, one), (names, third)))
            self.assertIsNone(alike((names, third), (names, other)))

    def test_ahead_and_behind_in_whatever_program(self):
        draw = drawn.drawing("whatever")
        for row in range(300):
            many = draw.choice((1, 2))
            names = drawn.NAMES[:many]
            one, other = [(names, steps) for steps in KINDS[row % len(KINDS)](draw, many)]
            ahead, behind = [drawn.program(draw, many, 2, most_number=3, most_side=3, most_sides=2, most_test=2, sums=0) for _ in range(2)]
            self.assertIsNone(alike(put_behind(put_behind(ahead, one), behind), put_behind(ahead, put_behind(other, behind))))

    def test_none_of_the_told_kind_is_too_much(self):
        draw = drawn.drawing("told kind")
        for _ in range(1500):
            many, rows = draw.choice((1, 2)), []
            for tills in draw.choice(((0, 2), (1, 1), (2, 0))):
                sums = draw.choice((0, 1))
                steps = drawn.Steps(draw, many, tills=tills, sums=sums, most_number=3 if sums else 20, most_test=2, most_sides=2, most_side=3)
                rows.append((drawn.NAMES[:many], steps.steps(4)))
            self.check_same(alike(*rows), alike(*rows[::-1]))
            for program in rows:
                hangs(program, many - 1, 0)

    def test_heavy_ones_of_the_told_kind(self):
        third, dice = ("till", (1, 3)), [("die", ((number, (3, 11)), (3, (8, 11)))) for number in (0, 1, 2)]
        rows = [
            (("throw", 0, dice[2]), ("throw", 0, dice[1]), ("sum", 1, third, 0), ("seen", (1, "from", 2))),
            (("throw", 1, dice[1]), ("sum", 0, ("till", (2, 3)), 1), ("if", (0, "below", 2), (), (("set", 1, 1),))),
            (("throw", 1, ("till", (5, 7))), ("sum", 0, dice[0], 1), ("less", 0), ("less", 0)),
            (("add", 1, 3), ("throw", 1, dice[1]), ("sum", 0, third, 1), ("less", 0)),
        ]
        for one in rows:
            for other in rows:
                found = alike((TWO, one), (TWO, other))
                self.check_same(found is None, one == other)
                if found is not None:
                    self.assertNotEqual(share_of((TWO, one), *found), share_of((TWO, other), *found))

    def test_too_much(self):
        tenfold = (TWO, (("sum", 0, ("die", ((9, (1, 1)),)), 0),) * 9)
        self.check_raises(TooMany(5000), alike, tenfold, (TWO, ()))
        self.check_raises(TooMany(5000), alike, (TWO, ()), tenfold)
        self.check_raises(TooMany(5000), hangs, tenfold, 0, 1)
        self.check_raises(Unfit(), alike, tenfold, (ONE, ()))

    def test_unlike_though_alike_by_proportion(self):
        """Programs that drop runs may be unlike though their shares, divided by what is left, are the same."""
        half = (ONE, (("either", (1, 2), (), (("seen", (0, "below", 1)), ("seen", (0, "from", 1)))),))
        self.check_same(alike(half, NOTHING), ((0,), (0,)))
        self.check_same(worth(share_of(half, (3,), (3,))), Fraction(1, 2))


if __name__ == "__main__":
    unittest.main()
