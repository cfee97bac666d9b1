"""[A3], [D1] and [D3] to [D6]: closed forms."""

import copy
import inspect
import itertools
import unittest
from fractions import Fraction
from math import comb

from everystart import closedforms
from everystart.closedforms import coefficient, form_error, same_series, together
from everystart.polynomials import added, multiplied
from tests import drawn
from tests.drawn import pair, worth
from tests.kinds import KindsCase, shown
from tests.series import multiplied_out

UNIT = (((0, 0), (1, 1)),)
MID = (((0, 0), (1, 2)), ((1, 0), (1, 2)))
THROUGH = (((0, 0), (1, 1)), ((1, 1), (-1, 1)))
GEO = (((0, 0), (1, 1)), ((0, 1), (-1, 1)))
STAY, FAIR = ((UNIT, (THROUGH,)),), ((MID, (THROUGH,)),)
PART = (MID, (GEO, THROUGH))


def contrary(form):
    """Return the form that is 0 together with form."""
    return tuple((tuple((powers, (-a, b)) for powers, (a, b) in above), below) for above, below in form)


class CallsTest(KindsCase):
    CALLS = {
        "form_error": (["n", "value"], [2, STAY + (UNIT,)], ("part", 1)),
        "coefficient": (["n", "form", "powers"], [2, FAIR, (4, 3)], (1, 2)),
        "same_series": (["n", "one", "other"], [2, FAIR, STAY], False),
        "together": (["n", "form"], [2, FAIR + contrary(FAIR)], ()),
    }

    def test_by_place_and_by_name_twice(self):
        for name, (names, arguments, told) in self.CALLS.items():
            function = getattr(closedforms, name)
            self.assertEqual(function.__module__, "everystart.closedforms")
            self.assertEqual(list(inspect.signature(function).parameters), names)
            before = copy.deepcopy(arguments)
            for _ in range(2):
                self.check_same(function(*arguments), told)
                self.check_same(function(**dict(zip(reversed(names), reversed(arguments)))), told)
            self.assertEqual(arguments, before)

    def test_what_is_handed_in_stays_as_it_was(self):
        for value in drawn.values() + [[PART], ([MID, (GEO,)],), ((list(MID), ()),), ((MID, [GEO]),), {"a": PART}]:
            before = copy.deepcopy(value)
            self.check_same(form_error(2, value), form_error(value=value, n=2))
            if not isinstance(value, ValueError):
                self.assertEqual(value, before)

    def test_equal_calls_get_equal_results(self):
        draw = drawn.drawing("equal calls")
        for _ in range(50):
            form = drawn.form(draw, 2, 3, 2, 3)
            self.check_same(together(2, form), together(2, copy.deepcopy(form)))


class FormErrorTest(KindsCase):
    def check_at_each_place(self, parts, word):
        for part in parts:
            for place in range(3):
                value = (PART,) * place + (part,) + (PART,) * (2 - place)
                with self.subTest(part=shown(part)):
                    self.check_same(form_error(2, value), (word, place))

    def test_forms(self):
        draw = drawn.drawing("forms")
        for n in range(7):
            self.assertIsNone(form_error(n, ()))
            for _ in range(150):
                self.assertIsNone(form_error(n, drawn.form(draw, n, 4, 4, draw.choice((1, 6, 60)))))
        self.assertIsNone(form_error(0, (((((), (3, 2)),), ()),)))
        self.assertIsNone(form_error(2, ((MID, (GEO, GEO, THROUGH, THROUGH)),) * 3))

    def test_form(self):
        for value in [value for value in drawn.values() if not isinstance(value, tuple)] + [[], [PART], {}, "", {0: PART}]:
            self.check_same(form_error(2, value), "form")

    def test_part(self):
        self.check_at_each_place([None, 0, True, "", (), [], {}, (MID,), (MID, (), ()), [MID, ()], UNIT, MID + (0,), "ab", {MID: ()}], "part")

    def test_above(self):
        wrong = [(), None, 0, True, [], "", {}, list(MID), MID[::-1], MID + MID, (((0,), (1, 1)),), (((0, 0, 0), (1, 1)),), (((0, 0), (0, 1)),), (((0, 0), (2, 4)),),
                 (((0, -1), (1, 1)),), (((0, True), (1, 1)),), (((0, 0), 1),), ((),), (None,)]
        self.check_at_each_place([(above, (GEO,)) for above in wrong] + [(above, ()) for above in wrong], "above")

    def test_below(self):
        wrong = [None, 0, True, [], "", {}, [GEO], list((GEO, THROUGH)), {GEO: 1}, (None,), ((),), (UNIT,), (MID,), (GEO[::-1],), (list(GEO),), (GEO[1:],), (GEO, None), (GEO, UNIT),
                 ((((0, 0), (1, 1)), ((0, 1), (0, 1))),), ((((0, 0), (2, 1)), ((0, 1), (1, 1))),), ((((0, 0), (-1, 1)), ((0, 1), (1, 1))),), ((((0, 0), (1, 2)), ((0, 1), (1, 1))),),
                 ((((0,), (1, 1)), ((1,), (1, 1))),), ((((0, 1), (1, 1)), ((1, 1), (1, 1))),), ((((0, 0), (True, 1)), ((0, 1), (1, 1))),), GEO, (GEO, GEO, THROUGH, 0), ((), GEO)]
        self.check_at_each_place([(MID, below) for below in wrong], "below")

    def test_order(self):
        other = (((0, 0), (1, 1)), ((0, 1), (-1, 2)))
        rows = [(THROUGH, GEO), (GEO, THROUGH, GEO), (GEO, GEO, THROUGH, GEO), (THROUGH, THROUGH, GEO), (other, GEO)]
        self.check_at_each_place([(MID, row) for row in rows], "order")
        for row in itertools.product((GEO, other, THROUGH), repeat=3):
            self.check_same(form_error(2, ((MID, row),)), None if list(row) == sorted(row) else ("order", 0))

    def test_no_divisor_without_names(self):
        self.check_same(form_error(0, (((((), (1, 1)),), ((((), (1, 1)),),)),)), ("below", 0))

    def test_each_kind_is_looked_for_in_all_parts_ahead_of_the_next_kind(self):
        part, above, below, order = (None, ((), ()), (MID, (UNIT,)), (MID, (THROUGH, GEO)))
        told = {"part": part, "above": above, "below": below, "order": order}
        for one, other in itertools.combinations(told, 2):
            self.check_same(form_error(2, (told[other], told[one])), (one, 1))
            self.check_same(form_error(2, (told[one], told[other])), (one, 0))
            self.check_same(form_error(2, (PART, told[other], told[other], told[one])), (one, 3))
        self.check_same(form_error(2, (((), (UNIT,)),)), ("above", 0))
        self.check_same(form_error(2, ((MID, (THROUGH, GEO, UNIT)),)), ("below", 0))
        self.check_same(form_error(2, [None]), "form")

    def test_values_of_all_kinds(self):
        for value in drawn.values():
            if isinstance(value, tuple) and value != ():
                place = next((at for at, part in enumerate(value) if not (isinstance(part, tuple) and len(part) == 2)), None)
                self.check_same(form_error(2, value), ("above", 0) if place is None else ("part", place))
            self.check_same(form_error(2, ((value, ()),)), ("above", 0))
            self.check_same(form_error(2, ((MID, value),)), None if value == () else ("below", 0))


class CoefficientTest(KindsCase):
    BOXES = {0: [()], 1: [(9,), (60,)], 2: [(6, 6), (12, 3), (1, 40)], 3: [(4, 4, 4), (9, 2, 3)], 4: [(3, 3, 3, 3), (1, 7, 1, 2)],
             5: [(2, 2, 3, 2, 2)], 6: [(2, 2, 2, 2, 2, 2), (1, 1, 4, 1, 2, 1)]}

    def test_drawn_forms(self):
        draw = drawn.drawing("coefficients")
        for _ in range(1200):
            n = draw.randint(0, 6)
            form = drawn.form(draw, n, 3, 3, draw.choice((1, 2, 4)))
            box = draw.choice(self.BOXES[n])
            told = multiplied_out(form, box)
            for powers in draw.sample(sorted(told), min(25, len(told))) + [box]:
                self.check_same(coefficient(n, form, powers), pair(told[powers]))

    def test_powers_far_out(self):
        two = ((UNIT, (GEO, GEO, GEO, THROUGH, THROUGH)),)
        for power, other in itertools.product((0, 1, 30, 60), repeat=2):
            told = comb(power + 1, 1) * comb(other - power + 2, 2) if other >= power else 0
            self.check_same(coefficient(2, two, (power, other)), (told, 1))
        thin = (((0, 0), (1, 1)), ((7, 5), (-1, 3)))
        self.check_same(coefficient(2, ((UNIT, (thin,)),), (56, 40)), (1, 3 ** 8))
        self.check_same(coefficient(2, ((UNIT, (thin,)),), (56, 41)), (0, 1))
        # By 6 names, each pair of which is bound together.
        unit = (((0,) * 6, (1, 1)),)
        bound = [((0,) * 6, tuple(int(at % 3 == place) for at in range(6))) for place in range(3)]
        row = tuple(sorted(((one, (1, 1)), (other, (-1, 2))) for one, other in bound))
        self.check_same(coefficient(6, ((unit, row),), (60, 50, 40, 60, 50, 40)), (1, 2 ** 150))
        self.check_same(coefficient(6, ((unit, row),), (60, 50, 40, 60, 50, 41)), (0, 1))
        twice = tuple(sorted(row * 2))
        self.check_same(coefficient(6, ((unit, twice),), (2, 1, 0, 2, 1, 0)), (3, 4))

    def test_far_out_of_one_name(self):
        draw = drawn.drawing("one name")
        for _ in range(60):
            form = drawn.form(draw, 1, 2, 4, draw.choice((2, 9)))
            told = multiplied_out(form, (60,))
            for power in (0, 17, 59, 60):
                self.check_same(coefficient(1, form, (power,)), pair(told[power,]))

    def test_what_stands_above_beyond_the_powers(self):
        self.check_same(coefficient(2, ((MID, ()),), (0, 0)), (1, 2))
        self.check_same(coefficient(2, ((MID, ()),), (1, 0)), (1, 2))
        self.check_same(coefficient(2, ((MID, ()),), (1, 1)), (0, 1))
        self.check_same(coefficient(2, (((((60, 60), (5, 7)),), (GEO,)),), (60, 59)), (0, 1))
        self.check_same(coefficient(2, (((((60, 60), (5, 7)),), (GEO,)),), (60, 60)), (5, 7))
        self.check_same(coefficient(0, (((((), (3, 2)),), ()), ((((), (-1, 2)),), ())), ()), (1, 1))

    def test_great_fractions(self):
        great = 10 ** 399
        divisor = (((0,), (1, 1)), ((1,), (great, great + 1)), ((2,), (-1, great - 1)))
        form = (((((0,), (great, 3)), ((2,), (1, great))), (divisor, divisor)),)
        told = multiplied_out(form, (12,))
        for power in range(13):
            self.check_same(coefficient(1, form, (power,)), pair(told[power,]))

    def test_sums_and_products_of_series(self):
        draw = drawn.drawing("sums of series")
        for _ in range(150):
            n = draw.randint(1, 3)
            one, other = drawn.form(draw, n, 2, 2, 2), drawn.form(draw, n, 2, 2, 2)
            powers = drawn.powers(draw, n, 4)
            total = worth(coefficient(n, one, powers)) + worth(coefficient(n, other, powers))
            self.check_same(coefficient(n, one + other, powers), pair(total))
            self.check_same(coefficient(n, one[::-1], powers), coefficient(n, one, powers))
            factor = drawn.polynomial(draw, n, 3, 2)
            product = tuple((multiplied(above, factor), below) for above, below in one)
            told = Fraction(0)
            for step, fraction in factor:
                ahead = tuple(a - b for a, b in zip(powers, step))
                if min(ahead) >= 0:
                    told += worth(fraction) * worth(coefficient(n, one, ahead))
            self.check_same(coefficient(n, product, powers), pair(told))

    def test_the_inverse_of_a_divisor(self):
        draw = drawn.drawing("inverses")
        for _ in range(150):
            n = draw.randint(1, 4)
            divisor = drawn.divisor(draw, n, 2, 2)
            one = ((((0,) * n, (1, 1)),),)[0]
            for powers in [(0,) * n] + [drawn.powers(draw, n, 4) for _ in range(3)]:
                told = (1, 1) if powers == (0,) * n else (0, 1)
                self.check_same(coefficient(n, ((divisor, (divisor,)),), powers), told)
                self.check_same(coefficient(n, ((one, ()),), powers), told)


class SameSeriesTest(KindsCase):
    def otherwise(self, draw, n, form):
        """Return a form that stands for the same series, written otherwise."""
        parts = list(form)
        for _ in range(draw.randint(1, 3)):
            way = draw.randrange(4)
            if way == 0:
                draw.shuffle(parts)
            elif way == 1 and parts:
                above, below = parts.pop(draw.randrange(len(parts)))
                first = drawn.polynomial(draw, n, 2, 2)
                rest = added(above, contrary(((first, ()),))[0][0])
                parts += [(piece, below) for piece in (first, rest) if piece]
            elif way == 2 and parts and n:
                place = draw.randrange(len(parts))
                above, below = parts[place]
                divisor = drawn.divisor(draw, n, 1, 1)
                parts[place] = (multiplied(above, divisor), tuple(sorted(below + (divisor,))))
            elif way == 3:
                more = drawn.form(draw, n, 1, 1, 2)
                parts += list(more) + list(contrary(more))
        return tuple(parts)

    def test_one_series_written_in_two_ways(self):
        draw = drawn.drawing("two ways")
        for _ in range(400):
            n = draw.randint(0, 3)
            form = drawn.form(draw, n, 2, 2, draw.choice((1, 2)))
            other = self.otherwise(draw, n, form)
            self.assertIsNone(form_error(n, other))
            self.check_same(same_series(n, form, other), True)
            self.check_same(same_series(n, other, form), True)
            self.check_same(same_series(n, form, form), True)
            self.check_same(together(n, form + contrary(other)), ())

    def test_a_single_coefficient_moved(self):
        draw = drawn.drawing("single")
        for _ in range(400):
            n = draw.randint(0, 3)
            form = drawn.form(draw, n, 2, 2, draw.choice((1, 2)))
            powers = drawn.powers(draw, n, draw.choice((0, 3, 20)))
            moved = self.otherwise(draw, n, form) + (((((powers), drawn.fraction(draw)),), ()),)
            self.check_same(same_series(n, form, moved), False)
            self.check_same(same_series(n, moved, form), False)

    def test_true_exactly_if_the_coefficients_within_the_bound_are_the_same(self):
        draw = drawn.drawing("bound")
        alike = 0
        for _ in range(300):
            below = [drawn.divisor(draw, 1, 1, 1, 2) for _ in range(draw.randint(1, 2))]
            one, other = [tuple((drawn.polynomial(draw, 1, 2, 2, 1), tuple(sorted(draw.sample(below, draw.randint(0, len(below))))))
                                for _ in range(draw.randint(0, 2))) for _ in range(2)]
            bound = 2 + 2 * len(below)
            told = multiplied_out(one, (bound,)) == multiplied_out(other, (bound,))
            alike += told
            self.check_same(same_series(1, one, other), told)
        self.assertGreater(alike, 10)

    def test_together(self):
        draw = drawn.drawing("together")
        for _ in range(400):
            n = draw.randint(0, 4)
            form = drawn.form(draw, n, 3, 2, 2)
            found = together(n, form)
            self.assertIsNone(form_error(n, found))
            self.assertLessEqual(len(found), 1)
            self.check_same(same_series(n, form, found), True)
            for _ in range(4):
                powers = drawn.powers(draw, n, 5)
                self.check_same(coefficient(n, found, powers), coefficient(n, form, powers))
            self.assertEqual(found == (), same_series(n, form, ()))

    def test_nothing(self):
        self.check_same(same_series(2, (), ()), True)
        self.check_same(same_series(2, (), STAY + contrary(STAY)), True)
        self.check_same(same_series(2, (), STAY), False)
        self.check_same(together(2, ()), ())
        self.check_same(together(0, (((((), (1, 2)),), ()), ((((), (-1, 2)),), ()))), ())
        # 1 / (1 - x u) less x u / (1 - x u) is 1.
        less = (((((1, 1), (-1, 1)),), (THROUGH,)),)
        self.check_same(together(2, STAY + less), ((UNIT, ()),))
        self.check_same(same_series(2, STAY + less, ((UNIT, ()),)), True)

    def test_none_of_the_told_kind_is_too_much(self):
        """At most two names, six divisors altogether, powers of at most 6: with all terms that there can be."""
        draw = drawn.drawing("told kind")
        for many in (1, 2):
            full = list(itertools.product(range(7), repeat=many))
            divisors = sorted(tuple((powers, drawn.fraction(draw) if any(powers) else (1, 1)) for powers in full) for _ in range(6))
            above = tuple((powers, drawn.fraction(draw)) for powers in full)
            one = tuple((above, (divisor,)) for divisor in divisors[:3])
            other = ((above, tuple(divisors[3:])),)
            self.check_same(same_series(many, one, other), False)
            self.assertEqual(len(together(many, one + other)), 1)
            self.check_same(same_series(many, one[::-1] + other, ()), False)
            self.assertEqual(len(together(many, tuple((above, (divisor,)) for divisor in divisors) + ((above, ()),))), 1)
            self.assertEqual(len(together(many, ((above, tuple(divisors)),))), 1)
        for _ in range(150):
            n = draw.randint(0, 2)
            form = drawn.form(draw, n, 2, 3, 6, 6)
            together(n, form)
            same_series(n, form[:1], form[1:])


if __name__ == "__main__":
    unittest.main()
