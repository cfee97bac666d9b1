"""[A3] and [F5] to [F8]: measures of loops, how much they rise, and verdicts."""

import itertools
import math
import unittest
from fractions import Fraction

from everystart import ending
from everystart.ending import falls, measure_error, rise, verdict
from everystart.errors import TooMany, Unfit
from everystart.loops import inside, keeps
from tests import drawn
from tests.drawn import pair, worth
from tests.kinds import KindsCase
from tests.runner import Runner, starts_to

COIN, ODD, HALF, THIRD = ("die", ((0, (1, 2)), (1, (1, 2)))), ("die", ((1, (1, 3)), (2, (2, 3)))), ("till", (1, 2)), ("till", (1, 3))
NIL = ("die", ((0, (1, 1)),))
ONE, TWO, SOME = ("x",), ("x", "y"), (0, "from", 1)
COUNTING = (TWO, SOME, (("less", 0), ("throw", 1, COIN)))
COUNTED = (TWO, (("sum", 1, COIN, 0), ("set", 0, 0)))
ENDLESS, CLEARED = (TWO, SOME, (("add", 1, 1),)), (TWO, (("if", SOME, (("set", 0, 0), ("set", 1, 0)), ()),))
RISING = (TWO, (0, "below", 3), (("throw", 0, COIN), ("add", 1, 1)))
BY_X, BY_BOTH = ((1, 1), (0, 1)), ((2, 1), (3, 1))


class CallsTest(KindsCase):
    def test_by_place_and_by_name_twice(self):
        self.check_calls(ending, [
            ("measure_error", ["loop", "value"], [COUNTING, BY_X], None),
            ("measure_error", ["loop", "value"], [COUNTING, list(BY_X)], "form"),
            ("rise", ["steps", "measure", "lows", "gap"], [COUNTING[2], BY_X, (1, 0), None], ((-1, 1), (0, 0))),
            ("rise", ["steps", "measure", "lows", "gap"], [RISING[2], BY_BOTH, (1, 4), (0, 3)], ((2, 1), (0, 5))),
            ("falls", ["loop", "measure"], [COUNTING, BY_X], (-1, 1)),
            ("verdict", ["loop", "told", "measure"], [COUNTING, COUNTED, BY_X], "does"),
        ])


class MeasureErrorTest(KindsCase):
    def test_measures(self):
        draw = drawn.drawing("measures")
        for _ in range(300):
            many = draw.randint(1, 3)
            self.assertIsNone(measure_error(drawn.loop(draw, many, 3), drawn.measure(draw, many)))
        self.assertIsNone(measure_error((ONE, SOME, ()), ((10 ** 399, 10 ** 399 - 1),)))

    def test_each_fault(self):
        rows = [
            ((), "form"), (((1, 1),), "form"), (((1, 1),) * 3, "form"), ([(1, 1), (0, 1)], "form"), (None, "form"), ("ab", "form"), ({}, "form"),
            (((1, 1), (-1, 2)), ("weight", 1)), (((2, 2), (0, 1)), ("weight", 0)), ((1, 0), ("weight", 0)), (((1, 1), 1), ("weight", 1)), (((1, 1), (0, 2)), ("weight", 1)),
            (((True, 1), (0, 1)), ("weight", 0)), (((1, True), (0, 1)), ("weight", 0)), (((1, 1), [0, 1]), ("weight", 1)), (((-1, 1), (-1, 1)), ("weight", 0)),
            (((1, 1), (1, 0)), ("weight", 1)), (((1, -1), (0, 1)), ("weight", 0)), (((1, 1, 1), None), ("weight", 0)), (((0, 1), None), ("weight", 1)),
        ]
        for value, told in rows:
            self.check_same(measure_error(COUNTING, value), told)

    def test_values_of_all_kinds(self):
        for value in drawn.values():
            told = ("weight", 0) if isinstance(value, tuple) and len(value) == 2 else "form"
            self.check_same(measure_error(COUNTING, value), told)
            self.check_same(measure_error(COUNTING, ((1, 1), value)), ("weight", 1))
            self.check_same(measure_error((ONE, SOME, ()), (value,)), ("weight", 0))


class StepTest(KindsCase):
    """Each kind of step by itself: lows of x and y, gap, step, bound for the weights 2 and 3, lows behind."""

    PLAIN = [
        ((5, 1), ("set", 0, 2), -6, (2, 1)), ((2, 1), ("set", 0, 2), 0, (2, 1)), ((0, 1), ("set", 0, 20), 40, (20, 1)), ((5, 4), ("set", 1, 0), -12, (5, 0)),
        ((5, 1), ("add", 0, 3), 6, (8, 1)), ((0, 0), ("add", 1, 20), 60, (0, 20)), ((1, 0), ("less", 0), -2, (0, 0)), ((0, 0), ("less", 0), 0, (0, 0)), ((7, 2), ("less", 1), -3, (7, 1)),
        ((4, 1), ("throw", 0, COIN), 1, (4, 1)), ((4, 1), ("throw", 1, ODD), 5, (4, 2)), ((4, 1), ("throw", 0, THIRD), 4, (4, 1)), ((4, 1), ("throw", 0, NIL), 0, (4, 1)),
        ((4, 1), ("sum", 0, NIL, 1), 0, (4, 1)), ((4, 3), ("sum", 0, COIN, 1), None, (4, 3)), ((4, 3), ("sum", 0, ODD, 1), None, (7, 3)), ((4, 3), ("sum", 1, ODD, 1), None, (4, 6)),
        ((4, 3), ("sum", 1, THIRD, 0), None, (4, 3)), ((4, 0), ("sum", 0, ("die", ((9, (1, 1)),)), 0), None, (40, 0)),
        ((4, 3), ("seen", (0, "from", 2)), 0, (4, 3)), ((1, 3), ("seen", (0, "from", 2)), 0, (2, 3)), ((1, 3), ("seen", (0, "below", 2)), 0, (1, 3)), ((4, 3), ("seen", (1, "below", 1)), 0, (4, 3)),
        ((0, 0), ("either", (1, 4), (("add", 0, 1),), (("add", 1, 1), ("add", 0, 2))), Fraction(1, 2) + Fraction(21, 4), (1, 0)),
        ((3, 0), ("either", (1, 3), (("less", 0),), ()), Fraction(-2, 3), (2, 0)), ((3, 0), ("either", (1, 3), (), (("sum", 0, COIN, 1),)), None, (3, 0)),
        ((0, 0), ("if", (0, "below", 2), (("add", 0, 3),), (("less", 0),)), 6, (1, 0)), ((2, 0), ("if", (0, "below", 2), (("add", 0, 3),), (("less", 0),)), -2, (1, 0)),
        ((1, 0), ("if", (0, "below", 2), (("sum", 0, COIN, 1),), (("less", 0),)), None, (1, 0)), ((2, 0), ("if", (0, "below", 2), (("sum", 0, COIN, 1),), (("less", 0),)), -2, (1, 0)),
        ((1, 0), ("if", (1, "from", 3), (("less", 1), ("less", 1)), (("less", 0),)), -2, (0, 0)), ((0, 0), ("if", (1, "from", 3), (), ()), 0, (0, 0)),
        ((0, 0), ("if", (0, "from", 4), (("less", 0),), (("set", 0, 4),)), 8, (3, 0)), ((4, 0), ("if", (0, "from", 4), (("less", 0),), (("set", 0, 4),)), -2, (3, 0)),
    ]
    # Of x its gap to 4 is meant here, the lows ahead being those of the gap.
    GAP = [
        ((1, 1), ("set", 0, 2), 2, (2, 1)), ((4, 1), ("set", 0, 20), -8, (0, 1)), ((0, 1), ("set", 0, 0), 8, (4, 1)), ((4, 1), ("set", 1, 5), 12, (4, 5)),
        ((4, 1), ("add", 0, 3), -6, (1, 1)), ((2, 1), ("add", 0, 3), -4, (0, 1)), ((0, 1), ("add", 0, 20), 0, (0, 1)), ((2, 1), ("less", 0), 2, (2, 1)), ((0, 0), ("less", 0), 2, (0, 0)),
        ((0, 2), ("throw", 0, COIN), 0, (0, 2)), ((1, 2), ("throw", 0, COIN), -1, (0, 2)), ((4, 2), ("throw", 0, ODD), Fraction(-10, 3), (2, 2)), ((1, 2), ("throw", 0, ODD), -2, (0, 2)),
        ((0, 2), ("throw", 0, HALF), 0, (0, 2)), ((1, 2), ("throw", 0, HALF), -1, (0, 2)), ((3, 2), ("throw", 0, HALF), Fraction(-7, 4), (0, 2)), ((2, 2), ("throw", 0, THIRD), Fraction(-20, 9), (0, 2)),
        ((3, 2), ("sum", 0, ODD, 1), 0, (0, 2)), ((3, 2), ("sum", 0, NIL, 0), 0, (0, 2)), ((3, 2), ("sum", 1, ODD, 0), None, (3, 2)), ((3, 2), ("sum", 1, ODD, 1), None, (3, 4)), ((3, 2), ("sum", 1, NIL, 0), 0, (3, 2)),
        ((1, 0), ("seen", (0, "below", 2)), 0, (3, 0)), ((4, 0), ("seen", (0, "below", 2)), 0, (4, 0)), ((1, 0), ("seen", (0, "from", 2)), 0, (1, 0)), ((1, 0), ("seen", (1, "from", 2)), 0, (1, 2)),
        ((1, 0), ("if", (0, "below", 2), (("add", 0, 3),), (("less", 0),)), 2, (0, 0)), ((3, 0), ("if", (0, "below", 2), (("add", 0, 3),), (("less", 0),)), -6, (0, 0)),
        ((2, 0), ("if", (0, "below", 2), (("add", 0, 3),), (("less", 0),)), 2, (0, 0)), ((0, 0), ("if", (0, "from", 4), (("less", 0),), (("add", 0, 1),)), 2, (0, 0)),
        ((1, 0), ("if", (0, "from", 4), (("less", 0),), (("add", 0, 1),)), -2, (0, 0)), ((2, 1), ("if", (1, "below", 1), (("less", 0),), (("add", 0, 1),)), -2, (1, 1)),
    ]

    def check(self, rows, gap):
        for lows, step, bound, behind in rows:
            with self.subTest(step=step, lows=lows):
                self.check_same(rise((step,), BY_BOTH, lows, gap), (None if bound is None else pair(bound), behind))
                weightless = rise((step,), ((0, 1), (0, 1)), lows, gap)
                self.check_same(weightless, ((0, 1), behind))

    def test_without_a_gap(self):
        self.check(self.PLAIN, None)

    def test_with_a_gap(self):
        self.check(self.GAP, (0, 4))

    def test_tests_beyond_the_gap(self):
        """A test by more than the gap's number tells of a gap of 0, or nothing."""
        for number in (1, 2, 3, 4):
            for low in range(3):
                branching = ("if", (0, "below", number), (("set", 1, 1),), (("set", 1, 2),))
                bound, behind = rise((branching,), ((0, 1), (1, 1)), (low, 0), (0, 2))
                can_be = low <= max(0, 2 - number)
                self.check_same((bound, behind), (pair(2 if can_be else 1), (low if can_be else max(low, 3 - number), 1)))
        self.check_same(rise((("seen", (0, "below", 1)),), BY_X, (0, 0), (0, 3)), ((0, 1), (3, 0)))
        self.check_same(rise((("seen", (0, "below", 4)),), BY_X, (0, 0), (0, 3)), ((0, 1), (0, 0)))

    def test_no_step(self):
        for gap in (None, (0, 3), (1, 1)):
            self.check_same(rise((), BY_X, (1, 1), gap), ((0, 1), (1, 1)))


class Own:
    """An own reckoning of rise, with Fractions; no bound is endless here."""

    def __init__(self, measure, gap):
        self.weights = [worth(weight) for weight in measure]
        self.gap, self.top = gap if gap else (None, None)

    def rise(self, steps, lows):
        total, lows = Fraction(0), dict(lows)
        for step in steps:
            bound, lows = getattr(self, "do_" + step[0])(lows, *step[1:])
            total = math.inf if math.inf in (total, bound) else total + bound
        return total, lows

    def put(self, lows, counter, change, low):
        weight = self.weights[counter]
        return (weight * change if weight else Fraction(0)), {**lows, counter: low}

    def do_set(self, lows, counter, number):
        low = max(0, self.top - number) if counter == self.gap else number
        return self.put(lows, counter, low - lows[counter], low)

    def do_add(self, lows, counter, number):
        low = lows[counter]
        if counter == self.gap:
            return self.put(lows, counter, -min(number, low), low - min(number, low))
        return self.put(lows, counter, number, low + number)

    def do_less(self, lows, counter):
        low = lows[counter]
        if counter == self.gap:
            return self.put(lows, counter, 1, low)
        return self.put(lows, counter, -min(1, low), low - min(1, low))

    def do_throw(self, lows, counter, die):
        word, held = die
        if counter != self.gap:
            mean = 1 / worth(held) - 1 if word == "till" else sum(number * worth(share) for number, share in held)
            return self.put(lows, counter, mean, lows[counter] + (0 if word == "till" else min(held)[0]))
        low = lows[counter]
        if word == "till":
            hit = worth(held)
            falling = sum(number * hit * (1 - hit) ** number for number in range(low)) + low * (1 - hit) ** low
            return self.put(lows, counter, -falling, 0)
        return self.put(lows, counter, -sum(worth(share) * min(number, low) for number, share in held), max(0, low - max(held)[0]))

    def do_sum(self, lows, counter, die, by):
        if counter == self.gap:
            return Fraction(0), {**lows, counter: 0}
        least = 0 if die[0] == "till" or by == self.gap else die[1][0][0]
        change = Fraction(0) if die == NIL else math.inf
        return self.put(lows, counter, change, lows[counter] + least * lows[by])

    def narrowed(self, lows, test, below):
        """Return the lows where test's counter is below its number or not; None if that can't be."""
        counter, _, number = test
        least, most = (number, math.inf) if not below else (0, number - 1)
        if counter == self.gap:
            least, most = max(0, self.top - most), max(0, self.top - least)
        return None if lows[counter] > most else {**lows, counter: max(least, lows[counter])}

    def do_if(self, lows, test, yes, no):
        found = []
        for branch, below in ((yes, test[1] == "below"), (no, test[1] == "from")):
            narrow = self.narrowed(lows, test, below)
            if narrow is not None:
                found.append(self.rise(branch, narrow))
        return max(bound for bound, _ in found), {counter: min(behind[counter] for _, behind in found) for counter in lows}

    def do_either(self, lows, share, yes, no):
        (one, behind), (other, others) = self.rise(yes, lows), self.rise(no, lows)
        return worth(share) * one + (1 - worth(share)) * other, {counter: min(behind[counter], others[counter]) for counter in lows}

    def do_seen(self, lows, test):
        narrow = self.narrowed(lows, test, test[1] == "below")
        return Fraction(0), lows if narrow is None else narrow


class RiseTest(KindsCase):
    def own(self, steps, measure, lows, gap):
        bound, behind = Own(measure, gap).rise(steps, dict(enumerate(lows)))
        return (None if bound == math.inf else pair(bound)), tuple(behind[counter] for counter in range(len(lows)))

    def drawn_case(self, draw, nodes, **more):
        many = draw.randint(1, 3)
        steps = drawn.Steps(draw, many, **more).steps(nodes)
        gap = draw.choice((None, (draw.randrange(many), draw.randint(1, 4))))
        lows = [draw.randint(0, 4) for _ in range(many)]
        if gap is not None:
            lows[gap[0]] = draw.choice((0, gap[1], draw.randint(0, gap[1])))
        return steps, drawn.measure(draw, many), tuple(lows), gap

    def test_drawn_steps(self):
        draw = drawn.drawing("rise")
        bounded = 0
        for _ in range(4000):
            case = self.drawn_case(draw, draw.randint(0, 12), tills=2, sums=draw.choice((0, 0, 1)), most_number=5, most_side=4)
            found = rise(*case)
            self.check_same(found, self.own(*case))
            bounded += found[0] is not None
        self.assertGreater(bounded, 2500)

    def test_branches_in_branches(self):
        draw = drawn.drawing("rise in branches")
        for _ in range(1500):
            case = self.drawn_case(draw, 14, tills=1, words=("if", "either", "if", "less", "throw", "add", "set", "sum", "seen"), most_number=5)
            self.check_same(rise(*case), self.own(*case))

    def test_one_behind_another(self):
        """Bounds are added up, and the lows behind the one are those ahead of the other."""
        draw = drawn.drawing("rise behind")
        for _ in range(600):
            steps, measure, lows, gap = self.drawn_case(draw, 6, tills=1, most_number=5)
            first, last = steps[:2], steps[2:]
            bound, between = rise(first, measure, lows, gap)
            other, behind = rise(last, measure, between, gap)
            total = None if bound is None or other is None else pair(worth(bound) + worth(other))
            self.check_same(rise(steps, measure, lows, gap), (total, behind))

    def mean_rise(self, steps, measure, start, gap):
        """Return by how much the measure of start rises in the mean by steps, and the least numbers and gap behind them."""
        def numbers(stand):
            return [max(0, gap[1] - number) if gap and gap[0] == counter else number for counter, number in enumerate(stand)]
        weights = [worth(weight) for weight in measure]
        ends = Runner(bound=False).run((drawn.NAMES[:len(start)], steps), start)
        total = sum(share * sum(weight * number for weight, number in zip(weights, numbers(end))) for end, share in ends.items())
        least = [min(row) for row in zip(*[numbers(end) for end in ends])]
        return total - sum(weight * number for weight, number in zip(weights, numbers(start))), least

    def test_bounds_are_not_passed(self):
        """From each start with at least the lows the measure rises by no more in the mean, and no low is passed."""
        draw = drawn.drawing("not passed")
        words = ("set", "add", "less", "throw", "sum", "if", "either")
        for _ in range(500):
            steps, measure, lows, gap = self.drawn_case(draw, draw.randint(0, 5), words=words, most_number=4, most_side=3, most_sides=2)
            bound, behind = rise(steps, measure, lows, gap)
            for more in itertools.product((0, 1, 3), repeat=len(lows)):
                start = [low + number for low, number in zip(lows, more)]
                if gap:
                    start[gap[0]] = max(0, gap[1] - start[gap[0]])
                    if lows[gap[0]] > gap[1] - start[gap[0]]:
                        continue
                risen, least = self.mean_rise(steps, measure, tuple(start), gap)
                if bound is not None:
                    self.assertLessEqual(risen, worth(bound))
                self.assertTrue(all(low <= number for low, number in zip(behind, least)))


class FallsTest(KindsCase):
    def test_drawn_loops(self):
        draw = drawn.drawing("falls")
        for _ in range(800):
            many = draw.randint(1, 3)
            loop, measure = drawn.loop(draw, many, draw.randint(0, 6), tills=1, most_number=4, most_side=3), drawn.measure(draw, many)
            counter, word, number = loop[1]
            lows = [0] * many
            lows[counter] = number if word == "from" else 1
            told, _ = rise(loop[2], measure, tuple(lows), None if word == "from" else (counter, number))
            self.check_same(falls(loop, measure), told)

    def test_by_hand(self):
        rows = [
            (COUNTING, BY_X, (-1, 1)), (COUNTING, ((1, 1), (3, 1)), (1, 2)), (COUNTING, ((0, 1), (0, 1)), (0, 1)), (ENDLESS, BY_X, (0, 1)), (RISING, BY_X, (-1, 2)),
            (RISING, ((2, 1), (1, 1)), (0, 1)), ((TWO, (1, "from", 4), (("less", 1),) * 5), ((0, 1), (1, 1)), (-4, 1)), ((TWO, SOME, (("sum", 0, COIN, 1),)), BY_X, None),
            ((TWO, SOME, (("sum", 1, COIN, 0), ("less", 0))), BY_X, (-1, 1)), ((ONE, (0, "below", 2), (("throw", 0, HALF),)), ((1, 1),), (-1, 2)), ((ONE, (0, "below", 2), (("set", 0, 2),)), ((1, 1),), (-1, 1)),
        ]
        for loop, measure, told in rows:
            self.check_same(falls(loop, measure), told)


class VerdictTest(KindsCase):
    def test_each_of_the_four_words(self):
        rows = [
            (COUNTING, COUNTED, BY_X, "does"), (COUNTING, COUNTED, ((1, 1), (1, 1)), "does"), (COUNTING, COUNTED, ((0, 1), (1, 1)), "at most"), (COUNTING, COUNTED, ((1, 1), (2, 1)), "at most"),
            (COUNTING, CLEARED, BY_X, "other"), (COUNTING, CLEARED, ((0, 1), (0, 1)), "unsure"), (ENDLESS, CLEARED, BY_X, "at most"), (ENDLESS, COUNTED, BY_X, "unsure"), (RISING, (TWO, ()), BY_X, "other"),
        ]
        for loop, told, measure, word in rows:
            self.check_same(verdict(loop, told, measure), word)

    def test_no_bound_is_not_below_0(self):
        loop = (TWO, SOME, (("set", 0, 0), ("sum", 1, COIN, 1)))
        told = (TWO, (("if", SOME, loop[2], ()),))
        self.check_same(verdict(loop, told, BY_X), "does")
        self.check_same(verdict(loop, told, BY_BOTH), "at most")
        self.check_same(verdict(loop, (TWO, ()), BY_BOTH), "unsure")

    def test_drawn_ones(self):
        draw = drawn.drawing("verdicts")
        for _ in range(400):
            many = draw.choice((1, 2))
            more = {"most_number": 3, "most_test": 2, "most_side": 2, "most_sides": 2, "sums": 0}
            loop, measure = drawn.loop(draw, many, draw.randint(0, 3), **more), drawn.measure(draw, many)
            told = draw.choice((drawn.program(draw, many, draw.randint(0, 2), **more), (loop[0], (("if", loop[1], (("set", loop[1][0], 4), ("set", many - 1, 0)), ()),))))
            kept, bound = keeps(loop, told), falls(loop, measure)
            words = ("does", "at most") if kept else ("other", "unsure")
            self.check_same(verdict(loop, told, measure), words[0 if bound is not None and worth(bound) < 0 else 1])

    def test_errors(self):
        tenfold = (("sum", 0, ("die", ((9, (1, 1)),)), 0),) * 9
        self.check_raises(Unfit(), verdict, COUNTING, (("y", "x"), ()), BY_X)
        self.check_raises(Unfit(), verdict, COUNTING, (ONE, ()), BY_X)
        self.check_raises(TooMany(5000), verdict, COUNTING, (TWO, tenfold), BY_X)
        self.check_raises(Unfit(), verdict, COUNTING, (("a", "b"), tenfold), BY_X)


class LawsTest(KindsCase):
    """What [F8] tells of measures that fall."""

    def falling(self, draw, words):
        while True:
            many = draw.choice((1, 1, 2))
            loop = drawn.loop(draw, many, draw.randint(1, 4), words=words, most_number=3, most_side=2, most_sides=2)
            measure = drawn.measure(draw, many)
            bound = falls(loop, measure)
            if bound is not None and worth(bound) < 0:
                return loop, measure, worth(bound)

    def weight(self, loop, measure, start):
        counter, word, number = loop[1]
        held = list(start)
        if word == "below":
            held[counter] = max(0, number - held[counter])
        return sum(worth(weight) * each for weight, each in zip(measure, held))

    def test_the_mean_number_of_rounds(self):
        """Without "seen" the chances inside come, all together, to at most the measure of the start by what it falls."""
        draw = drawn.drawing("mean rounds")
        for _ in range(120):
            loop, measure, bound = self.falling(draw, ("set", "add", "less", "less", "throw", "either", "if"))
            for start in starts_to(len(loop[0]), 2):
                try:
                    rounds = sum(worth(inside(loop, start, number)) for number in range(8))
                except TooMany:
                    continue
                self.assertLessEqual(rounds, self.weight(loop, measure, start) / -bound)

    def test_it_surely_ends(self):
        """Walks that fall in the mean are inside ever less, also where runs are dropped."""
        rows = [
            (ONE, SOME, (("either", (1, 4), (("add", 0, 1),), (("less", 0),)),)), (ONE, (0, "below", 4), (("either", (1, 4), (("less", 0),), (("add", 0, 1),)),)),
            (ONE, SOME, (("either", (1, 4), (("add", 0, 1),), (("less", 0),)), ("seen", (0, "below", 4)))), (ONE, (0, "below", 2), (("throw", 0, THIRD),)),
        ]
        for loop in rows:
            self.assertLess(worth(falls(loop, ((1, 1),))), 0)
            chances = [worth(inside(loop, (1,), number)) for number in range(13)]
            self.assertEqual(chances, sorted(chances, reverse=True))
            self.assertLess(chances[12], Fraction(3, 10))


if __name__ == "__main__":
    unittest.main()
