"""[A3], [E1], [E2], [E4] and [E6]: the effects of programs on all starts at once."""

import copy
import inspect
import unittest

from everystart import effects
from everystart.closedforms import coefficient, form_error, same_series, together
from everystart.effects import effect, effect_error, left_form, mean_form
from everystart.errors import Never, TooMany
from everystart.figures import mean_of, outcomes
from everystart.polynomials import multiplied
from everystart.programs import put_behind
from everystart.runs import left_of, share_of
from tests import drawn
from tests.drawn import pair, worth
from tests.kinds import KindsCase
from tests.runner import Runner
from tests.series import multiplied_out

COIN = ("die", ((0, (1, 2)), (1, (1, 2))))
FLIP, NOTHING, DOWN = (("x",), (("throw", 0, COIN),)), (("x",), ()), (("x",), (("less", 0),))
UNIT = (((0, 0), (1, 1)),)
MID = (((0, 0), (1, 2)), ((1, 0), (1, 2)))
THROUGH = (((0, 0), (1, 1)), ((1, 1), (-1, 1)))
STAY, FAIR = ((UNIT, (THROUGH,)),), ((MID, (THROUGH,)),)


def told_kind(draw, nodes, tills, sums=1):
    """Return a program of the kind that [E2] tells of."""
    many = draw.choice((1, 2, 2))
    most_number = 3 if sums else 20
    steps = drawn.Steps(draw, many, tills=tills, sums=sums, most_number=most_number, most_test=2, most_sides=2, most_side=3)
    return drawn.NAMES[:many], steps.steps(nodes)


def terms(form):
    """Return how many terms form has altogether."""
    return sum(len(above) + sum(map(len, below)) for above, below in form)


def in_order(pairs):
    """Return the first pair (start, end), by sums and then as tuples, starts ahead of ends."""
    return min(pairs, key=lambda pair: (sum(pair[0]), pair[0], sum(pair[1]), pair[1]))


class CallsTest(KindsCase):
    CALLS = {
        "effect": (["program"], [FLIP]),
        "effect_error": (["program", "value"], [NOTHING, FAIR]),
        "left_form": (["program"], [DOWN]),
        "mean_form": (["program", "counter"], [DOWN, 0]),
    }

    def test_by_place_and_by_name_twice(self):
        for name, (names, arguments) in self.CALLS.items():
            function = getattr(effects, name)
            self.assertEqual(function.__module__, "everystart.effects")
            self.assertEqual(list(inspect.signature(function).parameters), names)
            before = copy.deepcopy(arguments)
            told = function(*arguments)
            for _ in range(2):
                self.check_same(function(*arguments), told)
                self.check_same(function(**dict(zip(reversed(names), reversed(arguments)))), told)
            self.assertEqual(arguments, before)

    def test_values_of_all_kinds(self):
        for value in drawn.values() + [[FAIR], list(FAIR), (FAIR,), ((MID, [THROUGH]),), ((list(MID), ()),)]:
            before = copy.deepcopy(value)
            told = "form" if form_error(2, value) is not None else ("share", (0,), (0,))
            self.check_same(effect_error(FLIP, value), told)
            self.check_same(effect_error(program=FLIP, value=value), told)
            if not isinstance(value, ValueError):
                self.assertEqual(value, before)


class EffectTest(KindsCase):
    def check_form(self, many, form):
        self.assertIsNone(form_error(2 * many, form))

    def check_shares(self, program, draw, starts):
        """Check the coefficients of program's effect at some starts and ends against the plain runner."""
        many = len(program[0])
        form = effect(program)
        self.check_form(many, form)
        left, means = left_form(program), [mean_form(program, counter) for counter in range(many)]
        for found in [left] + means:
            self.assertIsNone(form_error(many, found))
        for start in starts:
            told = Runner(bound=False).run(program, start)
            ends = draw.sample(sorted(told), min(3, len(told))) + [tuple(draw.randint(0, 8) for _ in range(many)) for _ in range(2)]
            for end in ends:
                self.check_same(coefficient(2 * many, form, end + start), pair(told.get(end, 0)))
            self.check_same(coefficient(many, left, start), pair(sum(told.values())))
            for counter in range(many):
                mean = sum(stand[counter] * share for stand, share in told.items())
                self.check_same(coefficient(many, means[counter], start), pair(mean))

    def starts(self, draw, many, most, rows):
        return [tuple(draw.randint(0, most) for _ in range(many)) for _ in range(rows)]

    def test_told_kind_without_tills(self):
        draw = drawn.drawing("effects")
        for _ in range(1300):
            program = told_kind(draw, draw.randint(0, 6), 0, draw.choice((0, 1)))
            self.check_shares(program, draw, self.starts(draw, len(program[0]), 5, 3))

    def test_told_kind_far_out(self):
        draw = drawn.drawing("far out")
        for _ in range(120):
            program = told_kind(draw, draw.randint(1, 6), 0, draw.choice((0, 0, 1)))
            self.check_shares(program, draw, self.starts(draw, len(program[0]), 20, 1))
        for many, start in ((1, (60,)), (2, (60, 50))):
            for steps in ((("less", 0), ("add", 0, 1)), (("if", (0, "from", 2), (("less", 0),), (("set", 0, 3),)), ("throw", 0, COIN))):
                self.check_shares((drawn.NAMES[:many], steps), draw, [start])

    def test_told_kind_with_tills(self):
        """Each is a closed form, and its coefficients are the shares; none is too much."""
        draw = drawn.drawing("tilled effects")
        for _ in range(1300):
            program = told_kind(draw, draw.randint(1, 6), 2)
            many = len(program[0])
            form, left = effect(program), left_form(program)
            self.check_form(many, form)
            for start in self.starts(draw, many, 2, 2):
                for end in [tuple(draw.randint(0, 5) for _ in range(many)) for _ in range(2)]:
                    self.check_same(coefficient(2 * many, form, end + start), share_of(program, start, end))
                whole = left_of(program, start)
                self.check_same(coefficient(many, left, start), whole)
                counter = draw.randrange(many)
                mean = coefficient(many, mean_form(program, counter), start)
                if whole == (0, 1):
                    self.check_same(mean, (0, 1))
                    self.assertRaises(Never, mean_of, program, start, counter)
                else:
                    self.check_same(mean, pair(worth(whole) * worth(mean_of(program, start, counter))))

    def test_tills_far_out(self):
        draw = drawn.drawing("tills far out")
        for _ in range(60):
            program = told_kind(draw, draw.randint(1, 6), 2)
            many = len(program[0])
            start, end = (20,) * many, tuple(draw.randint(15, 60) for _ in range(many))
            self.check_same(coefficient(2 * many, effect(program), end + start), share_of(program, start, end))

    def test_summed_by_its_own_counter_and_tills_in_branches(self):
        half, third = ("till", (1, 2)), ("till", (1, 3))
        rows = [
            (("sum", 0, half, 0),), (("sum", 0, COIN, 0), ("less", 0)), (("throw", 0, third), ("sum", 0, half, 0)), (("sum", 0, half, 0), ("throw", 0, third)),
            (("either", (1, 4), (("throw", 0, half),), (("sum", 0, third, 0),)),), (("if", (0, "from", 2), (("throw", 0, half), ("less", 0)), (("throw", 0, third),)),),
            (("sum", 0, half, 0), ("seen", (0, "from", 2)), ("less", 0), ("less", 0)), (("throw", 0, half), ("if", (0, "below", 2), (), (("set", 0, 0),))),
        ]
        for steps in rows:
            program = (("x",), steps)
            form = effect(program)
            for start in range(5):
                for end in range(7):
                    self.check_same(coefficient(2, form, (end, start)), share_of(program, (start,), (end,)))
            self.assertIsNone(effect_error(program, form))

    def test_heavy_ones_of_the_told_kind(self):
        """Those that come to the most terms: many throws and tills, summed by a till, and parted behind it."""
        die = ("die", ((2, (1, 3)), (3, (2, 3))))
        other = ("die", ((0, (1, 5)), (3, (4, 5))))
        rows = [
            (("throw", 0, die), ("throw", 0, other), ("throw", 0, other), ("sum", 1, ("till", (1, 2)), 0), ("less", 1), ("less", 1)),
            (("throw", 1, ("till", (1, 3))), ("seen", (1, "from", 2)), ("throw", 1, other), ("sum", 0, ("till", (3, 7)), 1), ("less", 0), ("seen", (0, "from", 2))),
            (("throw", 0, ("till", (1, 5))), ("if", (0, "from", 2), (("add", 0, 3),), ()), ("sum", 1, ("till", (1, 2)), 0), ("less", 1), ("seen", (1, "from", 2))),
            (("add", 0, 3),) * 4 + (("sum", 1, ("till", (1, 2)), 0), ("seen", (1, "from", 2))),
            (("add", 0, 3),) * 5 + (("sum", 0, other, 0),), (("add", 0, 20),) * 5 + (("seen", (0, "from", 2)),),
        ]
        for steps in rows:
            program = (("x", "y"), steps)
            form = effect(program)
            self.check_form(2, form)
            self.assertIsNone(effect_error(program, form))
            self.check_same(coefficient(4, form, (11, 2, 1, 1)), share_of(program, (1, 1), (11, 2)))
            self.check_same(coefficient(2, left_form(program), (1, 2)), left_of(program, (1, 2)))
            self.assertIsNone(form_error(2, mean_form(program, 1)))

    def test_three_counters_and_deeper_programs(self):
        draw = drawn.drawing("three counters")
        for _ in range(80):
            program = drawn.program(draw, 3, draw.randint(0, 5), most_number=4, most_side=3, most_sides=2, most_test=2)
            self.check_shares(program, draw, self.starts(draw, 3, 3, 2))
        steps = (("throw", 0, COIN),)
        for _ in range(8):
            steps = (("if", (0, "from", 1), steps, ()),)
        self.check_shares((("x",), steps + (("less", 0),) * 50), draw, [(0,), (3,), (55,)])

    def test_great_fractions(self):
        great = 10 ** 399
        die = ("die", ((0, (1, great)), (3, (great - 1, great))))
        program = (("x",), (("throw", 0, die), ("either", (great - 1, great), (("less", 0),), (("sum", 0, die, 0),))))
        self.check_shares(program, drawn.drawing("great"), [(0,), (1,), (2,)])
        self.assertIsNone(effect_error(program, effect(program)))

    def test_numbers_beyond_all_bounds(self):
        """Powers as great as 10 ** 40, above and below, of each counter: TooMany(5000), or right."""
        told = 0
        for many, counter in ((1, 0), (2, 0), (2, 1), (3, 2)):
            tenfold = ("sum", counter, ("die", ((9, (1, 1)),)), counter)
            for number in (4, 5, 6, 7, 12, 13, 14, 15, 20, 39):
                program = (drawn.NAMES[:many], (tenfold,) * number)
                start, end = (0,) * counter + (1,) + (0,) * (many - counter - 1), (0,) * counter + (10 ** number,) + (0,) * (many - counter - 1)
                try:
                    self.check_same(coefficient(2 * many, effect(program), end + start), (1, 1))
                    told += 1
                except TooMany as error:
                    self.check_same(error.limit, 5000)
                tilled = (program[0], (("throw", counter, ("till", (1, 2))),) + program[1])
                try:
                    self.check_same(share_of(tilled, start, end), (1, 2))
                    self.check_same(share_of(tilled, start, tuple(2 * power for power in end)), (1, 4))
                except TooMany as error:
                    self.check_same(error.limit, 5000)
        self.assertGreater(told, 7)

    def test_too_many_or_right(self):
        """Programs beyond the told kind: TooMany(5000), or right."""
        draw = drawn.drawing("beyond")
        for _ in range(40):
            program = drawn.program(draw, 2, 9, tills=3, sums=2)
            try:
                form = effect(program)
            except TooMany as error:
                self.check_same(error.limit, 5000)
                continue
            self.check_form(2, form)
            self.check_same(coefficient(4, form, (2, 1, 1, 0)), share_of(program, (1, 0), (2, 1)))


class EffectErrorTest(KindsCase):
    def moved(self, draw, program, places):
        """Return a form that is not the effect at places, pairs (start, end)."""
        more = tuple((((end + start, drawn.fraction(draw)),), ()) for start, end in places)
        return effect(program) + more

    def place(self, draw, many, most):
        return tuple(tuple(draw.randint(0, most) for _ in range(many)) for _ in range(2))

    def test_right_forms(self):
        draw = drawn.drawing("right forms")
        for _ in range(400):
            program = told_kind(draw, draw.randint(0, 6), 2)
            self.assertIsNone(effect_error(program, effect(program)))

    def test_forms_written_otherwise(self):
        draw = drawn.drawing("written otherwise")
        for _ in range(300):
            program = told_kind(draw, draw.randint(0, 4), 2)
            many = len(program[0])
            form = effect(program)
            self.assertIsNone(effect_error(program, form[::-1]))
            self.assertIsNone(effect_error(program, together(2 * many, form)))
            parts = list(form)
            if parts:
                above, below = parts.pop(draw.randrange(len(parts)))
                divisor = drawn.divisor(draw, 2 * many, 1, 1)
                parts.append((multiplied(above, divisor), tuple(sorted(below + (divisor,)))))
                half = tuple((powers, pair(worth(fraction) / 2)) for powers, fraction in parts[0][0])
                parts[0:1] = [(half, parts[0][1])] * 2
            self.assertIsNone(effect_error(program, tuple(parts)))
            self.check_same(same_series(2 * many, tuple(parts), form), True)

    def test_a_coefficient_moved(self):
        draw = drawn.drawing("moved")
        for _ in range(400):
            program = told_kind(draw, draw.randint(0, 6), 2)
            place = self.place(draw, len(program[0]), draw.choice((0, 2, 9, 60)))
            self.check_same(effect_error(program, self.moved(draw, program, [place])), ("share",) + place)

    def test_two_coefficients_moved_the_first_one_in_order(self):
        draw = drawn.drawing("moved twice")
        for _ in range(500):
            program = told_kind(draw, draw.randint(0, 5), 2)
            most = draw.choice((1, 2, 2, 9))
            places = {self.place(draw, len(program[0]), most): 0 for _ in range(draw.choice((2, 2, 3)))}
            self.check_same(effect_error(program, self.moved(draw, program, list(places))), ("share",) + in_order(places))

    def test_order(self):
        program = (("x", "y"), ())
        draw = drawn.drawing("order")
        rows = [
            [((0, 0), (5, 5)), ((0, 1), (0, 0))], [((0, 1), (3, 3)), ((1, 0), (0, 0))], [((0, 2), (9, 9)), ((1, 1), (0, 0)), ((2, 0), (0, 0))],
            [((1, 0), (0, 0)), ((0, 2), (0, 0))], [((1, 1), (0, 3)), ((1, 1), (2, 2))], [((1, 1), (0, 3)), ((1, 1), (1, 2)), ((1, 1), (3, 0))],
            [((1, 1), (3, 0)), ((1, 1), (0, 4))], [((2, 0), (0, 0)), ((0, 3), (0, 0))],
        ]
        for places in rows:
            for ordered in (places, places[::-1]):
                self.check_same(effect_error(program, self.moved(draw, program, ordered)), ("share",) + places[0])

    def test_another_programs_effect(self):
        draw = drawn.drawing("another")
        for _ in range(400):
            many = draw.choice((1, 2))
            more = {"most_number": 3, "most_test": 2, "most_sides": 2, "most_side": 3}
            one, other = [drawn.program(draw, many, draw.randint(0, 3), **more) for _ in range(2)]
            found = effect_error(one, effect(other))
            seeming = self.first_parting(one, other, many)
            if seeming is not None:
                self.check_same(found, ("share",) + seeming)
            elif found is not None:
                _, start, end = found
                self.assertNotEqual(share_of(one, start, end), share_of(other, start, end))
                self.assertGreater(sum(start), 3)

    def first_parting(self, one, other, many):
        """Return the first start up to the sum 3 at which the outcomes are unlike, and for it the first end."""
        starts = [(total,) for total in range(4)] if many == 1 else [(first, total - first) for total in range(4) for first in range(total + 1)]
        for start in starts:
            left, right = dict(outcomes(one, start)), dict(outcomes(other, start))
            unlike = [(start, end) for end in {**left, **right} if left.get(end) != right.get(end)]
            if unlike:
                return in_order(unlike)
        return None

    def test_forms_of_few_terms(self):
        """Values of at most 8 terms, for programs of at most four steps: none of them is too much."""
        draw = drawn.drawing("few terms")
        for _ in range(600):
            program = told_kind(draw, draw.randint(0, 4), 2)
            many = len(program[0])
            value = drawn.form(draw, 2 * many, 2, 2, draw.choice((1, 2, 60)), 2)
            if terms(value) > 8:
                continue
            found = effect_error(program, value)
            if found is None:
                self.check_same(same_series(2 * many, value, effect(program)), True)
                continue
            word, start, end = found
            self.check_same(word, "share")
            if max(start + end) <= 20:
                self.assertNotEqual(coefficient(2 * many, value, end + start), share_of(program, start, end))
            if many == 1 and start[0] <= 5 and end[0] <= 5:
                box = multiplied_out(value, (5, 5))
                form = multiplied_out(effect(program), (5, 5))
                unlike = [((powers[1],), (powers[0],)) for powers in box if box[powers] != form[powers]]
                self.check_same((start, end), in_order(unlike))

    def test_form(self):
        draw = drawn.drawing("spoilt forms")
        two = ((((0, 0, 0, 0), (1, 1)),), ())
        for value in (STAY + (UNIT,), (UNIT,), list(STAY), STAY[0], (STAY[0], None), ((MID, (UNIT,)),), (((), ()),), ((MID[::-1], ()),), (two,), (((((0,), (1, 1)),), ()),)):
            self.check_same(effect_error(FLIP, value), "form")
        self.check_same(effect_error((("x", "y"), ()), STAY), "form")
        self.check_same(effect_error((("x", "y"), ()), (two,)), ("share", (0, 1), (0, 1)))
        for _ in range(200):
            program = told_kind(draw, draw.randint(0, 4), 1)
            form = effect(program)
            for spoilt in (form + (None,), form + (((), ()),), list(form), form + form[0] if form else None, (form,)):
                self.check_same(effect_error(program, spoilt), "form")

    def test_the_effect_is_not_asked_for_if_there_is_no_form(self):
        die = ("die", tuple((number, (1, 6)) for number in range(6)))
        heavy = (("x", "y", "z"), (("sum", 0, die, 1), ("sum", 1, ("till", (1, 3)), 2), ("sum", 2, die, 0), ("sum", 0, ("till", (1, 7)), 1)) * 9)
        self.assertRaises(TooMany, effect_error, heavy, ())
        self.check_same(effect_error(heavy, None), "form")
        self.check_same(effect_error(heavy, STAY), "form")

    def test_nothing(self):
        never = (("x",), (("set", 0, 0), ("seen", (0, "from", 1))))
        self.assertIsNone(effect_error(never, ()))
        self.check_same(effect_error(never, STAY), ("share", (0,), (0,)))
        self.check_same(effect_error(NOTHING, ()), ("share", (0,), (0,)))
        self.check_same(together(2, effect(never)), ())
        self.check_same(coefficient(1, left_form(never), (3,)), (0, 1))
        self.check_same(coefficient(1, mean_form(never, 0), (3,)), (0, 1))


class LawsTest(KindsCase):
    """What [C5] and [E6] tell, of effects."""

    def test_one_behind_another(self):
        draw = drawn.drawing("effects behind")
        for _ in range(150):
            one = told_kind(draw, draw.randint(0, 3), 0, 0)
            many = len(one[0])
            other = drawn.program(draw, many, draw.randint(0, 3), sums=0, most_number=3, most_test=2, most_side=3, most_sides=2)
            both, last = effect(put_behind(one, other)), effect(other)
            start, end = [tuple(draw.randint(0, 4) for _ in range(many)) for _ in range(2)]
            told = sum(worth(share) * worth(coefficient(2 * many, last, end + stand)) for stand, share in outcomes(one, start))
            self.check_same(coefficient(2 * many, both, end + start), pair(told))

    def test_a_start_comes_out_as_it_is_without_steps(self):
        for many in (1, 2, 3):
            form = effect((drawn.NAMES[:many], ()))
            start = (7, 0, 3)[:many]
            self.check_same(coefficient(2 * many, form, start + start), (1, 1))
            self.check_same(coefficient(2 * many, form, start + start[:-1] + (start[-1] + 1,)), (0, 1))
            unit = (((0,) * (2 * many), (1, 1)),)
            through = []
            for place in range(many):
                powers = [0] * (2 * many)
                powers[place] = powers[many + place] = 1
                through.append(unit + ((tuple(powers), (-1, 1)),))
            self.check_same(same_series(2 * many, form, ((unit, tuple(sorted(through))),)), True)

    def test_left_is_1_without_seen(self):
        draw = drawn.drawing("left forms")
        words = ("set", "add", "less", "throw", "sum", "if", "either")
        for _ in range(150):
            many = draw.choice((1, 2))
            program = drawn.program(draw, many, draw.randint(0, 5), words=words, tills=2, most_number=3, most_test=2, most_side=3, most_sides=2)
            unit = (((0,) * many, (1, 1)),)
            rows = []
            for place in range(many):
                powers = [0] * many
                powers[place] = 1
                rows.append(unit + ((tuple(powers), (-1, 1)),))
            self.check_same(same_series(many, left_form(program), ((unit, tuple(sorted(rows))),)), True)

    def test_means_of_a_step_more(self):
        draw = drawn.drawing("mean forms")
        for _ in range(100):
            program = told_kind(draw, draw.randint(0, 4), 1)
            many = len(program[0])
            counter, start = draw.randrange(many), tuple(draw.randint(0, 3) for _ in range(many))
            more = (program[0], program[1] + (("add", counter, 3),))
            mean, left = worth(coefficient(many, mean_form(program, counter), start)), worth(left_of(program, start))
            self.check_same(coefficient(many, mean_form(more, counter), start), pair(mean + 3 * left))


if __name__ == "__main__":
    unittest.main()
