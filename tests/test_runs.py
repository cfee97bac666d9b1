"""[A3] and [C1] to [C6]: what comes of one start."""

import copy
import inspect
import itertools
import unittest
from fractions import Fraction
from math import comb

from everystart import figures, runs
from everystart.errors import Never, TooMany, Unfit
from everystart.figures import known_share, mean_of, outcomes
from everystart.programs import put_behind
from everystart.runs import left_of, share_of
from tests import drawn
from tests.drawn import pair, worth
from tests.kinds import KindsCase
from tests.runner import Runner, TooManyStands

COIN = ("die", ((0, (1, 2)), (1, (1, 2))))
HALF, THIRD = ("till", (1, 2)), ("till", (1, 3))
ONE, TWO = ("x",), ("x", "y")
NO_RUN = ("if", (0, "below", 1), (("set", 0, 1), ("if", (0, "below", 1), (("throw", 0, HALF),), ()), ("set", 0, 0)), ())


class CallsTest(KindsCase):
    PAIR = (TWO, (("throw", 0, COIN), ("sum", 1, COIN, 0), ("seen", (0, "from", 1))))
    HEADS = (TWO, (("throw", 0, HALF), ("sum", 1, COIN, 0), ("set", 0, 0), ("seen", (1, "below", 1))))
    CALLS = {
        "share_of": (["program", "start", "end"], [[PAIR, (0, 0), (1, 1)], [HEADS, (1, 0), (0, 0)]], [(1, 4), (1, 3)]),
        "left_of": (["program", "start"], [[PAIR, (0, 0)], [HEADS, (1, 0)]], [(1, 2), (1, 3)]),
        "known_share": (["program", "start", "end"], [[PAIR, (0, 0), (1, 1)], [HEADS, (1, 0), (0, 0)]], [(1, 2), (1, 1)]),
        "mean_of": (["program", "start", "counter"], [[PAIR, (0, 0), 1], [HEADS, (1, 0), 1]], [(1, 2), (0, 1)]),
        "outcomes": (["program", "start"], [[PAIR, (0, 0)]], [(((1, 0), (1, 4)), ((1, 1), (1, 4)))]),
    }

    def test_by_place_and_by_name_twice(self):
        for name, (names, rows, told) in self.CALLS.items():
            module = runs if name in ("share_of", "left_of") else figures
            function = getattr(module, name)
            self.assertEqual(function.__module__, module.__name__)
            self.assertEqual(list(inspect.signature(function).parameters), names)
            for arguments, fraction in zip(rows, told):
                before = copy.deepcopy(arguments)
                for _ in range(2):
                    self.check_same(function(*arguments), fraction)
                    self.check_same(function(**dict(zip(reversed(names), reversed(arguments)))), fraction)
                self.assertEqual(arguments, before)

    def test_errors_twice(self):
        great = (TWO, (("sum", 0, COIN, 0), ("sum", 1, COIN, 1)) * 2)
        for _ in range(2):
            for call in (lambda: share_of(great, (20, 20), (0, 0)), lambda: left_of(great, (20, 20)),
                         lambda: known_share(great, (20, 20), (0, 0)), lambda: mean_of(great, (20, 20), 1), lambda: outcomes(great, (20, 20))):
                with self.assertRaises(TooMany) as caught:
                    call()
                self.check_same(caught.exception.limit, 2000)
            self.assertRaises(Never, mean_of, program=(ONE, (("seen", (0, "from", 3)),)), start=(2,), counter=0)
            self.assertRaises(Unfit, outcomes, start=(0,), program=(ONE, (NO_RUN,)))


class PlainTest(KindsCase):
    """Programs without tills, held against the plain runner."""

    def check(self, program, start, draw):
        many = len(start)
        ends = [tuple(draw.randint(0, 25) for _ in range(many)) for _ in range(2)]
        try:
            told = Runner().run(program, start)
        except TooManyStands:
            for call in (lambda: share_of(program, start, ends[0]), lambda: left_of(program, start), lambda: outcomes(program, start),
                         lambda: known_share(program, start, ends[0]), lambda: mean_of(program, start, 0)):
                with self.assertRaises(TooMany) as caught:
                    call()
                self.check_same(caught.exception.limit, 2000)
            return 0
        left = sum(told.values(), Fraction(0))
        self.check_same(outcomes(program, start), tuple((stand, pair(told[stand])) for stand in sorted(told)))
        self.check_same(left_of(program, start), pair(left))
        ends += draw.sample(sorted(told), min(3, len(told)))
        for end in ends:
            self.check_same(share_of(program, start, end), pair(told.get(end, 0)))
            if left:
                self.check_same(known_share(program, start, end), pair(told.get(end, 0) / left))
            else:
                self.assertRaises(Never, known_share, program, start, end)
        for counter in range(many):
            if left:
                mean = sum(stand[counter] * share for stand, share in told.items()) / left
                self.check_same(mean_of(program, start, counter), pair(mean))
            else:
                self.assertRaises(Never, mean_of, program, start, counter)
        return 1

    def test_drawn_programs(self):
        draw = drawn.drawing("plain runs")
        told = 0
        for _ in range(2200):
            many = draw.randint(1, 3)
            program = drawn.program(draw, many, draw.choice((0, 1, 2, 3, 4, 5, 6, 9, 14)), sums=1)
            most = draw.choice((1, 3, 6, 20))
            told += self.check(program, tuple(draw.randint(0, most) for _ in range(many)), draw)
        self.assertGreater(told, 1800)

    def test_each_step_from_each_start(self):
        draw = drawn.drawing("each step")
        steps = [
            ("set", 0, 0), ("set", 0, 20), ("add", 0, 1), ("add", 0, 20), ("less", 0), ("throw", 0, COIN), ("sum", 0, COIN, 0), ("sum", 0, COIN, 1),
            ("sum", 1, COIN, 0), ("throw", 1, ("die", ((9, (1, 1)),))), ("seen", (0, "below", 4)), ("seen", (1, "from", 4)),
            ("if", (0, "below", 1), (("add", 1, 1),), (("add", 1, 2),)), ("if", (0, "from", 2), (("less", 1),), ()),
            ("either", (1, 3), (("set", 0, 2),), (("throw", 0, COIN),)), ("either", (1, 3), (), (("seen", (0, "from", 1)),)),
        ]
        for step, start in itertools.product(steps, ((0, 0), (1, 0), (0, 1), (3, 4), (4, 3), (20, 20))):
            self.assertEqual(self.check((TWO, (step,)), start, draw), 1)

    def test_branches_in_branches(self):
        draw = drawn.drawing("branches")
        for _ in range(200):
            program = drawn.program(draw, 2, 14, sums=1, words=("if", "either", "if", "either", "throw", "less", "add", "seen", "sum"))
            self.check(program, (draw.randint(0, 5), draw.randint(0, 5)), draw)

    def test_ends_beyond_the_bounds(self):
        program = (TWO, (("add", 0, 20),) * 39)
        self.check_same(outcomes(program, (20, 7)), (((800, 7), (1, 1)),))
        self.check_same(share_of(program, (20, 7), (60, 7)), (0, 1))
        self.check_same(mean_of(program, (20, 7), 0), (800, 1))
        self.check_same(share_of((ONE, (("throw", 0, HALF),)), (20,), (75,)), (1, 2 ** 56))

    def test_more_steps_and_deeper_ones_than_a_program_has(self):
        toss = ("throw", 0, COIN)
        steps = (toss,)
        for _ in range(9):
            steps = (("if", (0, "below", 4), steps + (toss,), ()),)
        draw = drawn.drawing("deeper")
        self.check((ONE, steps), (0,), draw)
        self.check((ONE, (toss, ("less", 0)) * 60), (3,), draw)
        unrolled = (ONE, (("if", (0, "from", 1), (("either", (1, 2), (("less", 0),), (("add", 0, 1),)),), ()),) * 24)
        self.check(unrolled, (1,), draw)
        tilled = (ONE, (("throw", 0, HALF), ("set", 0, 0)) * 30)
        self.check_same(share_of(tilled, (5,), (0,)), (1, 1))

    def test_great_fractions(self):
        great = 10 ** 399
        die = ("die", ((0, (1, great)), (3, (great - 1, great))))
        program = (ONE, (("throw", 0, die), ("either", (great - 1, great), (("throw", 0, die),), ())))
        self.check(program, (2,), drawn.drawing("great"))
        tilled = (ONE, (("throw", 0, ("till", (great - 1, great))), ("seen", (0, "from", 1))))
        self.check_same(left_of(tilled, (0,)), (1, great))
        self.check_same(share_of(tilled, (0,), (2,)), pair(Fraction(great - 1, great) * Fraction(1, great) ** 2))


class TooManyTest(KindsCase):
    """Just 2000 stands are taken, 2001 are not."""

    def numbers(self, program, start):
        """Return how many stands there are behind program; the shares are not looked at."""
        return len(Runner(cut=1, bound=False).run(program, start))

    def check_just(self, steps, start, stands):
        """Check that steps lead to just so many stands, and are taken or not."""
        program = (("x", "y", "z")[:len(start)], steps)
        self.assertEqual(self.numbers(program, start), stands)
        self.check_taken(program, start, stands <= 2000)

    def check_taken(self, program, start, taken):
        end = (0,) * len(start)
        calls = (lambda: share_of(program, start, end), lambda: left_of(program, start), lambda: outcomes(program, start),
                 lambda: known_share(program, start, end), lambda: mean_of(program, start, 0))
        for call in calls:
            if taken:
                call()
            else:
                with self.assertRaises(TooMany) as caught:
                    call()
                self.check_same(caught.exception.limit, 2000)

    def some(self, counter, step):
        """Return throws by which counter gets up to step more, each number between."""
        steps = ()
        while step > 0:
            side = min(step, 5)
            steps += (("throw", counter, ("die", tuple((number, (1, side + 1)) for number in range(side + 1)))),)
            step -= side
        return steps

    def times(self, counter, factor):
        """Return the step by which counter gets so many times what it has."""
        return "sum", counter, ("die", ((factor - 1, (1, 1)),)), counter

    def test_just_2000_and_2001_of_one_counter(self):
        grown = (self.times(0, 3), self.times(0, 7), self.times(0, 5))
        for more, taken in ((4, True), (5, False)):
            # 19 becomes 1995, and then 1999: so many coins come to 2000 numbers.
            ahead = grown + (("add", 0, more),)
            self.check_taken((ONE, ahead + (("sum", 0, COIN, 0),)), (19,), taken)
            self.check_taken((TWO, ahead + (("sum", 1, COIN, 0), ("set", 1, 0))), (19, 0), taken)
        self.assertEqual(len(outcomes((ONE, grown + (("add", 0, 4), ("sum", 0, COIN, 0))), (19,))), 2000)

    def test_just_2000_of_two_counters_and_one_more(self):
        forty, fifty = self.some(0, 39), self.some(1, 49)
        self.check_just(forty + fifty, (0, 0), 2000)
        more = ("either", (1, 2), (("set", 0, 20), ("set", 1, 20), ("add", 1, 20)), ())
        self.check_just(forty + fifty + (more,), (0, 0), 2000)
        beyond = ("either", (1, 2), (("set", 0, 20), ("set", 1, 20), ("add", 0, 20)), ())
        self.check_just(forty + fifty + (beyond,), (0, 0), 2001)
        self.check_just(self.some(0, 40) + fifty, (0, 0), 2050)

    def test_in_the_middle_and_brought_together_again(self):
        forty, fifty = self.some(0, 39), self.some(1, 49)
        together = (("set", 0, 0), ("set", 1, 0))
        for steps, taken in ((forty + fifty + together, True), (forty + self.some(1, 50) + together, False)):
            program = (TWO, steps)
            self.assertEqual(self.numbers(program, (0, 0)), 1)
            self.check_taken(program, (0, 0), taken)

    def test_in_branches(self):
        forty, fifty, more = self.some(0, 39), self.some(1, 49), self.some(1, 50)
        together = (("set", 0, 0), ("set", 1, 0))
        for inner, taken in ((forty + fifty + together, True), (forty + more + together, False)):
            for step in (("either", (1, 2), inner, ()), ("either", (1, 2), (), inner), ("if", (0, "below", 1), inner, ()),
                         ("if", (0, "from", 1), (), (("if", (1, "below", 1), inner, ()),))):
                self.check_taken((TWO, (step,)), (0, 0), taken)
            # No run comes there.
            self.check_taken((TWO, (("if", (0, "from", 1), inner, ()),)), (0, 0), True)
            self.check_same(left_of((TWO, (("seen", (0, "from", 1)), ("either", (1, 2), inner, ()))), (0, 0)), (0, 1))

    def test_both_branches_together(self):
        """Each branch is taken, both together are too many."""
        one = (("either", (1, 2), self.some(0, 39) + self.some(1, 26), (("add", 1, 20), ("add", 1, 8)) + self.some(0, 39) + self.some(1, 26)),)
        self.check_just(one, (0, 0), 2160)
        two = (("either", (1, 2), self.some(0, 39) + self.some(1, 24), (("add", 1, 20), ("add", 1, 5)) + self.some(0, 39) + self.some(1, 24)),)
        self.check_just(two, (0, 0), 2000)

    def test_dropped_runs_do_not_count(self):
        forty, fifty = self.some(0, 39), self.some(1, 49)
        self.check_taken((TWO, forty + fifty + (("seen", (0, "from", 1)),) + self.some(1, 1)), (0, 0), True)
        self.check_taken((TWO, forty + fifty + self.some(1, 1) + (("seen", (0, "from", 1)),)), (0, 0), False)

    def test_from_great_starts(self):
        double, twin = ("sum", 0, COIN, 0), ("sum", 1, COIN, 1)
        self.check_taken((TWO, (double, twin)), (20, 20), True)
        self.check_taken((TWO, (double, twin) * 2), (20, 20), False)
        self.check_taken((TWO, (double, twin) * 2), (10, 10), True)
        self.check_same(left_of((ONE, (double,) * 6), (20,)), (1, 1))
        self.assertRaises(TooMany, left_of, (ONE, (double,) * 7), (20,))
        self.check_taken((ONE, (double,) * 40), (0,), True)
        self.assertRaises(TooMany, left_of, (ONE, (double,) * 40), (1,))

    def test_numbers_of_forty_figures(self):
        nine = ("sum", 0, ("die", ((9, (1, 1)),)), 0)
        self.check_same(outcomes((TWO, (nine,) * 39 + (("throw", 1, COIN),)), (1, 0)),
                        (((10 ** 39, 0), (1, 2)), ((10 ** 39, 1), (1, 2))))
        self.check_taken((TWO, (nine,) * 38 + (("sum", 1, COIN, 0),)), (1, 0), False)
        self.check_taken((TWO, (nine,) * 38 + (("sum", 1, COIN, 0),)), (0, 0), True)

    def test_with_a_till_there_is_none(self):
        double, twin = ("sum", 0, COIN, 0), ("sum", 1, COIN, 1)
        for till in (("throw", 0, HALF), ("sum", 1, THIRD, 0), NO_RUN):
            for steps in ((double, twin) * 2 + (till,), (till,) + (double, twin) * 2, (double, twin, till, double, twin)):
                try:
                    self.check_same(left_of((TWO, steps), (20, 20)), (1, 1))
                except TooMany as error:
                    self.check_same(error.limit, 5000)
        self.check_same(left_of((TWO, (double, twin) * 2 + (NO_RUN,)), (20, 20)), (1, 1))
        self.check_same(share_of((TWO, (double, twin) * 2 + (NO_RUN,)), (20, 20), (20, 20)), (1, 2 ** 80))

    def test_never_behind_too_many_and_unfit_ahead_of_it(self):
        double, twin = ("sum", 0, COIN, 0), ("sum", 1, COIN, 1)
        dropped = (TWO, (double, twin) * 2 + (("seen", (0, "below", 1)),))
        self.assertRaises(TooMany, known_share, dropped, (20, 20), (20, 20))
        self.assertRaises(TooMany, mean_of, dropped, (20, 20), 1)
        self.assertRaises(Never, known_share, dropped, (4, 4), (4, 4))
        self.assertRaises(Never, mean_of, dropped, (4, 4), 1)
        self.assertRaises(Never, known_share, (ONE, (("throw", 0, HALF), ("add", 0, 2), ("seen", (0, "below", 2)))), (0,), (0,))
        self.assertRaises(Never, mean_of, (ONE, (("throw", 0, HALF), ("add", 0, 2), ("seen", (0, "below", 2)))), (0,), 0)
        self.assertRaises(Unfit, outcomes, (TWO, dropped[1] + (NO_RUN,)), (20, 20))
        self.assertRaises(Unfit, outcomes, (TWO, (("either", (1, 2), (), (("sum", 0, HALF, 1),)),)), (0, 0))


class TillsTest(KindsCase):
    """Programs with tills, held against sums known ahead, and against running with misses cut off far out."""

    def test_a_throw(self):
        for share, start in itertools.product(((1, 2), (1, 3), (5, 6), (1, 10 ** 399)), (0, 1, 6)):
            hit = worth(share)
            program = (ONE, (("throw", 0, ("till", share)),))
            for number in (0, 1, 2, 5, 60):
                self.check_same(share_of(program, (start,), (start + number,)), pair(hit * (1 - hit) ** number))
            for number in range(start):
                self.check_same(share_of(program, (start,), (number,)), (0, 1))
            self.check_same(left_of(program, (start,)), (1, 1))
            self.check_same(mean_of(program, (start,), 0), pair(start + (1 - hit) / hit))

    def test_coins_as_often_as_misses(self):
        for share, heads in itertools.product(((1, 2), (1, 3), (4, 5)), ((1, 2), (1, 4), (5, 6))):
            hit, head = worth(share), worth(heads)
            die = ("die", ((0, pair(1 - head)), (1, heads)))
            program = (TWO, (("throw", 0, ("till", share)), ("sum", 1, die, 0), ("set", 0, 0)))
            below = 1 - (1 - hit) * (1 - head)
            for number in (0, 1, 2, 7, 60):
                told = hit * ((1 - hit) * head) ** number / below ** (number + 1)
                self.check_same(share_of(program, (0, 0), (0, number)), pair(told))
            self.check_same(share_of(program, (3, 0), (0, 0)), pair(hit * (1 - head) ** 3 / below))
            self.check_same(mean_of(program, (0, 0), 1), pair((1 - hit) / hit * head))
            self.check_same(left_of(program, (2, 1)), (1, 1))

    def test_a_till_by_a_till(self):
        for share, other in itertools.product(((1, 2), (1, 3), (4, 5)), repeat=2):
            hit, each = worth(share), worth(other)
            below, miss = 1 - (1 - hit) * each, 1 - each
            program = (TWO, (("throw", 0, ("till", share)), ("sum", 1, ("till", other), 0), ("set", 0, 0)))
            self.check_same(share_of(program, (0, 0), (0, 0)), pair(hit / below))
            for number in (1, 2, 9, 40):
                told = hit * ((miss / below) ** number / below - miss * (miss / below) ** (number - 1) / below)
                self.check_same(share_of(program, (0, 0), (0, number)), pair(told))
            self.check_same(mean_of(program, (0, 0), 1), pair((1 - hit) / hit * miss / each))

    def test_summed_by_its_own_counter(self):
        program = (ONE, (("throw", 0, HALF), ("sum", 0, THIRD, 0)))
        for number in (0, 1, 2, 5, 12):
            told = sum(Fraction(1, 2) ** (m + 1) * comb(max(0, m - 1) + number - m, number - m) * Fraction(1, 3) ** m * Fraction(2, 3) ** (number - m)
                       for m in range(1, number + 1)) + (Fraction(1, 2) if number == 0 else 0)
            self.check_same(share_of(program, (0,), (number,)), pair(told))
        self.check_same(mean_of(program, (0,), 0), (3, 1))

    def test_two_tills_behind_one_another(self):
        for one, other in itertools.product(((1, 2), (1, 3), (3, 4)), repeat=2):
            a, b = worth(one), worth(other)
            program = (ONE, (("throw", 0, ("till", one)), ("throw", 0, ("till", other))))
            for number in (0, 1, 4, 30):
                told = sum(a * (1 - a) ** i * b * (1 - b) ** (number - i) for i in range(number + 1))
                self.check_same(share_of(program, (2,), (number + 2,)), pair(told))
            self.check_same(mean_of(program, (2,), 0), pair(2 + (1 - a) / a + (1 - b) / b))

    def test_tests_behind_it(self):
        for share, number, start in itertools.product(((1, 2), (2, 5)), range(1, 5), range(4)):
            hit = worth(share)
            reached = (1 - hit) ** max(0, number - start)
            late = (ONE, (("throw", 0, ("till", share)), ("seen", (0, "from", number))))
            early = (ONE, (("throw", 0, ("till", share)), ("seen", (0, "below", number))))
            self.check_same(left_of(late, (start,)), pair(reached))
            self.check_same(left_of(early, (start,)), pair(1 - reached))
            self.check_same(mean_of(late, (start,), 0), pair(max(number, start) + (1 - hit) / hit))
            parted = (ONE, (("throw", 0, ("till", share)), ("if", (0, "below", number), (("set", 0, 7),), (("set", 0, 9),))))
            self.check_same(share_of(parted, (start,), (7,)), pair(1 - reached))
            self.check_same(share_of(parted, (start,), (9,)), pair(reached))

    def test_within_branches(self):
        till = ("throw", 0, THIRD)
        either = (ONE, (("either", (1, 4), (till,), (("set", 0, 3),)),))
        self.check_same([share_of(either, (0,), (number,)) for number in (0, 1, 3)], [(1, 12), (1, 18), pair(Fraction(3, 4) + Fraction(2, 81))])
        chosen = (ONE, (("if", (0, "below", 1), (till, ("add", 0, 1)), (("less", 0),)),))
        self.check_same([share_of(chosen, (0,), (number,)) for number in (0, 1, 2)], [(0, 1), (1, 3), (2, 9)])
        self.check_same([share_of(chosen, (3,), (number,)) for number in (2, 3)], [(1, 1), (0, 1)])
        self.check_same(mean_of(either, (0,), 0), pair(Fraction(1, 4) * 2 + Fraction(9, 4)))

    def test_not_more_with_a_till_that_no_run_comes_to(self):
        draw = drawn.drawing("no run")
        for _ in range(300):
            many = draw.randint(1, 3)
            program = drawn.program(draw, many, draw.randint(0, 6), sums=1)
            start = tuple(draw.randint(0, 3) for _ in range(many))
            try:
                told = outcomes(program, start)
            except TooMany:
                continue
            tilled = (program[0], program[1] + (NO_RUN,))
            kept = Runner().run((program[0], (NO_RUN[:2] + ((), ()),)), start)
            self.assertEqual(len(kept), 1)
            self.check_same(left_of(tilled, start), left_of(program, start))
            for end, share in told[:3]:
                self.check_same(share_of(tilled, start, end), share)
            if left_of(program, start) != (0, 1):
                self.check_same(mean_of(tilled, start, 0), mean_of(program, start, 0))

    def drawn_till(self, draw, hits=None):
        """Return a program with a till, and a start, of the kind that [C2] tells of."""
        while True:
            many = draw.choice((1, 2, 2))
            steps = drawn.Steps(draw, many, tills=draw.randint(1, 4), sums=1, most_number=5, most_side=5, most_sides=draw.choice((2, 6)), hits=hits)
            program = (drawn.NAMES[:many], steps.steps(draw.randint(1, 6)))
            if "'till'" in repr(program):
                most = 6 // many
                return program, tuple(draw.randint(0, most) for _ in range(many))

    def test_drawn_programs_against_cut_runs(self):
        draw = drawn.drawing("cut runs")
        for _ in range(1000):
            # Tries that hit often: what is cut off is little then.
            program, start = self.drawn_till(draw, hits=((1, 2), (2, 3), (3, 4), (5, 6)))
            told = Runner(cut=45, bound=False).run(program, start)
            left, total = left_of(program, start), sum(told.values())
            self.assertTrue(-1e-9 < worth(left) - total < 1e-6)
            for end in [tuple(draw.randint(0, 7) for _ in start) for _ in range(4)] + [(60,) * len(start)]:
                share = share_of(program, start, end)
                self.assertTrue(-1e-9 < worth(share) - told.get(end, 0) < 1e-6)
                if left[0]:
                    self.check_same(known_share(program, start, end), pair(worth(share) / worth(left)))
                else:
                    self.check_same(share, (0, 1))
                    self.assertRaises(Never, known_share, program, start, end)
            for counter in range(len(start)):
                if worth(left) > 1e-3:
                    mean = sum(stand[counter] * share for stand, share in told.items()) / total
                    self.assertLess(abs(worth(mean_of(program, start, counter)) - mean), 1e-2)

    def test_none_of_the_told_kind_is_too_much(self):
        draw = drawn.drawing("told kind")
        for _ in range(1500):
            program, start = self.drawn_till(draw)
            left = left_of(program, start)
            end = tuple(draw.randint(0, 60) for _ in start)
            share = share_of(program, start, end)
            self.assertTrue(0 <= worth(share) <= worth(left) <= 1)
            if left != (0, 1):
                known_share(program, start, end)
                for counter in range(len(start)):
                    self.assertGreaterEqual(worth(mean_of(program, start, counter)), 0)

    def test_many_tills_and_great_sums(self):
        tills = tuple(("throw", place % 2, ("till", share)) for place, share in enumerate(((1, 2), (1, 3), (2, 5), (3, 7), (1, 6))))
        die = ("die", tuple((number, (1, 6)) for number in range(6)))
        for extra in (("sum", 0, die, 1), ("sum", 1, ("till", (1, 5)), 0), ("sum", 0, ("till", (1, 5)), 0), ("sum", 1, die, 1)):
            for place in range(6):
                program = (TWO, tills[:place] + (extra,) + tills[place:])
                self.check_same(left_of(program, (3, 3)), (1, 1))
                share_of(program, (3, 3), (60, 60))
                mean_of(program, (3, 3), 0)
        fives = (TWO, (("add", 0, 5),) * 4 + (("sum", 1, THIRD, 0), ("seen", (1, "from", 4))))
        self.assertEqual(worth(left_of(fives, (6, 0))), 1 - sum(comb(25 + n, n) * Fraction(1, 3) ** 26 * Fraction(2, 3) ** n for n in range(4)))


class LawsTest(KindsCase):
    """What [C5] tells."""

    def test_left_is_at_most_1_and_1_without_seen(self):
        draw = drawn.drawing("left")
        words = ("set", "add", "less", "throw", "sum", "if", "either")
        for _ in range(300):
            many = draw.choice((1, 2))
            start = tuple(draw.randint(0, 3) for _ in range(many))
            kept = drawn.program(draw, many, draw.randint(0, 6), words=words, tills=2, most_number=5, most_side=5)
            self.check_same(left_of(kept, start), (1, 1))
            left = worth(left_of(drawn.program(draw, many, draw.randint(0, 6), tills=2, most_number=5, most_side=5), start))
            self.assertTrue(0 <= left <= 1)

    def test_one_behind_another(self):
        draw = drawn.drawing("one behind another")
        for _ in range(250):
            many = draw.choice((1, 2))
            one = drawn.program(draw, many, draw.randint(0, 4), most_number=5, most_side=3, most_sides=3)
            other = drawn.program(draw, many, draw.randint(0, 3), most_number=5, most_side=3, tills=1)
            start = tuple(draw.randint(0, 3) for _ in range(many))
            between = outcomes(one, start)
            if len(between) > 40:
                continue
            both = put_behind(one, other)
            for end in [tuple(draw.randint(0, 8) for _ in range(many)) for _ in range(2)]:
                told = sum(worth(share) * worth(share_of(other, stand, end)) for stand, share in between)
                self.check_same(share_of(both, start, end), pair(told))
            self.assertLessEqual(worth(left_of(both, start)), worth(left_of(one, start)))

    def test_endlessly_many_stands_between(self):
        one, other = (ONE, (("throw", 0, HALF),)), (ONE, (("sum", 0, COIN, 0), ("seen", (0, "below", 4))))
        both = put_behind(one, other)
        for end in range(5):
            told = sum(Fraction(1, 2) ** (stand + 1) * worth(share_of(other, (stand,), (end,))) for stand in range(end + 1))
            self.check_same(share_of(both, (0,), (end,)), pair(told))

    def test_either_and_if_by_their_branches(self):
        draw = drawn.drawing("by branches")
        for _ in range(300):
            many = draw.choice((1, 2))
            names = drawn.NAMES[:many]
            yes, no = [drawn.program(draw, many, draw.randint(0, 3), tills=1, most_number=5, most_side=4)[1] for _ in range(2)]
            start, end = [tuple(draw.randint(0, 4) for _ in range(many)) for _ in range(2)]
            share, test = drawn.chance(draw), drawn.test_of(draw, many)
            one, other = worth(share_of((names, yes), start, end)), worth(share_of((names, no), start, end))
            told = worth(share) * one + (1 - worth(share)) * other
            self.check_same(share_of((names, (("either", share, yes, no),)), start, end), pair(told))
            passes = (start[test[0]] < test[2]) == (test[1] == "below")
            self.check_same(share_of((names, (("if", test, yes, no),)), start, end), pair(one if passes else other))

    def test_known_shares(self):
        draw = drawn.drawing("known shares")
        for _ in range(250):
            many = draw.choice((1, 2))
            program = drawn.program(draw, many, draw.randint(0, 5), most_side=4)
            start = tuple(draw.randint(0, 3) for _ in range(many))
            try:
                ends = outcomes(program, start)
            except TooMany:
                continue
            if not ends:
                continue
            known = {end: worth(known_share(program, start, end)) for end, _ in ends[:60]}
            if len(ends) <= 60:
                self.assertEqual(sum(known.values()), 1)
            test = drawn.test_of(draw, many)
            seen = (program[0], program[1] + (("seen", test),))
            passing = {end: worth(share) for end, share in ends if (end[test[0]] < test[2]) == (test[1] == "below")}
            for end, _ in ends[:10]:
                if not passing:
                    self.assertRaises(Never, known_share, seen, start, end)
                else:
                    self.check_same(known_share(seen, start, end), pair(passing.get(end, 0) / sum(passing.values())))

    def test_means_step_by_step(self):
        draw = drawn.drawing("means step by step")
        words = ("set", "add", "less", "throw", "sum", "if", "either")
        for _ in range(250):
            many = draw.choice((1, 2))
            names, steps = drawn.program(draw, many, draw.randint(0, 4), words=words, tills=1, most_number=5, most_side=4)
            start = tuple(draw.randint(0, 2) for _ in range(many))
            counter, by, die = draw.randrange(many), draw.randrange(many), drawn.die(draw, most_sides=3)
            mean = worth((1 - worth(die[1]), worth(die[1]))) if die[0] == "till" else sum(number * worth(share) for number, share in die[1])
            try:
                ahead = [worth(mean_of((names, steps), start, place)) for place in range(many)]
                thrown = mean_of((names, steps + (("throw", counter, die),)), start, counter)
                summed = mean_of((names, steps + (("sum", counter, die, by),)), start, counter)
                added = mean_of((names, steps + (("add", counter, 4),)), start, counter)
            except TooMany:
                continue
            self.check_same(thrown, pair(ahead[counter] + mean))
            self.check_same(summed, pair(ahead[counter] + mean * ahead[by]))
            self.check_same(added, pair(ahead[counter] + 4))


if __name__ == "__main__":
    unittest.main()
