"""[A3], [D1], [D2] and [D5]: polynomials."""

import copy
import inspect
import itertools
import unittest
from fractions import Fraction

from everystart import polynomials
from everystart.polynomials import added, multiplied, polynomial_error, put_in
from tests import drawn
from tests.drawn import pair, worth
from tests.kinds import KindsCase, shown

MID = (((0, 0), (1, 2)), ((1, 0), (1, 2)))
X = (((1, 0), (1, 1)),)
GREAT = 10 ** 399


def table(polynomial):
    """Return the Fractions of a polynomial by their powers."""
    return {powers: worth(fraction) for powers, fraction in polynomial}


def tuple_of(table):
    """Return the polynomial of a table."""
    return tuple((powers, pair(table[powers])) for powers in sorted(table) if table[powers])


def sum_of(one, other):
    """Return the sum of two tables."""
    return {powers: one.get(powers, 0) + other.get(powers, 0) for powers in {**one, **other}}


def product_of(one, other):
    """Return the product of two tables."""
    found = {}
    for (left, a), (right, b) in itertools.product(one.items(), other.items()):
        powers = tuple(map(sum, zip(left, right)))
        found[powers] = found.get(powers, 0) + a * b
    return found


def put_in_of(n, polynomial, place, other):
    """Return the table of polynomial with other in the place of a name, term by term."""
    found = {}
    for powers, factor in polynomial.items():
        term = {powers[:place] + (0,) + powers[place + 1:]: factor}
        for _ in range(powers[place]):
            term = product_of(term, other)
        found = sum_of(found, term)
    return found


class CallsTest(KindsCase):
    CALLS = {
        "polynomial_error": (["n", "value"], [2, MID[::-1]], ("order", 1)),
        "added": (["one", "other"], [MID, (((1, 0), (-1, 2)),)], (((0, 0), (1, 2)),)),
        "multiplied": (["one", "other"], [MID, X], (((1, 0), (1, 2)), ((2, 0), (1, 2)))),
        "put_in": (["n", "polynomial", "place", "other"], [2, MID, 0, (((0, 1), (2, 1)),)], (((0, 0), (1, 2)), ((0, 1), (1, 1)))),
    }

    def test_by_place_and_by_name_twice(self):
        for name, (names, arguments, told) in self.CALLS.items():
            function = getattr(polynomials, name)
            self.assertEqual(function.__module__, "everystart.polynomials")
            self.assertEqual(list(inspect.signature(function).parameters), names)
            for _ in range(2):
                self.check_same(function(*arguments), told)
                self.check_same(function(**dict(zip(reversed(names), reversed(arguments)))), told)

    def test_what_is_handed_in_stays_as_it_was(self):
        for value in drawn.values() + [[MID[0]], (list(MID[0]),), (((0, 0), [1, 2]),), {(0, 0): (1, 2)}]:
            before = copy.deepcopy(value)
            self.check_same(polynomial_error(2, value), polynomial_error(value=value, n=2))
            if not isinstance(value, ValueError):
                self.assertEqual(value, before)


class PolynomialErrorTest(KindsCase):
    def test_polynomials(self):
        draw = drawn.drawing("polynomials")
        for n in range(7):
            self.assertIsNone(polynomial_error(n, ()))
            for _ in range(150):
                self.assertIsNone(polynomial_error(n, drawn.polynomial(draw, n, draw.randint(0, 40), 60, 50)))
        self.assertIsNone(polynomial_error(0, (((), (-5, 3)),)))
        self.assertIsNone(polynomial_error(1, (((0,), (GREAT, GREAT + 1)), ((60,), (-GREAT, 1)))))

    def test_form(self):
        for value in [value for value in drawn.values() if not isinstance(value, tuple)] + [list(MID), dict(MID), [], "", None]:
            self.check_same(polynomial_error(2, value), "form")

    def test_term_at_each_place(self):
        wrong = [
            None, 0, True, "", (), [], {}, ((1, 1),), ((1, 1), (1, 2), 0), [(1, 1), (1, 2)], ([1, 1], (1, 2)), ((1, 1), [1, 2]), ((1,), (1, 2)), ((1, 1, 1), (1, 2)),
            ((), (1, 2)), ((1, -1), (1, 2)), ((-1, 0), (1, 2)), ((True, 0), (1, 2)), ((0, False), (1, 2)), ((None, 0), (1, 2)), (("0", 0), (1, 2)), ((1.0, 0), (1, 2)),
            ((1, 1), (0, 1)), ((1, 1), (2, 4)), ((1, 1), (1, 0)), ((1, 1), (1, -1)), ((1, 1), (True, 2)), ((1, 1), (1, True)), ((1, 1), 1), ((1, 1), (1,)), ((1, 1), (1, 2, 3)),
            ((1, 1), None), (1, (1, 2)), ((1, 2), (1, 1), (1, 1)), "term", ((0, 0), (0, 2)), ((0, 0), (0, 0)),
        ]
        right = tuple(((0, power), (1, 2)) for power in range(5))
        for term in wrong:
            for place in range(4):
                value = right[:place] + (term,) + right[place + 1:]
                with self.subTest(term=shown(term)):
                    self.check_same(polynomial_error(2, value), ("term", place))
        for n in range(7):
            for many in range(7):
                self.check_same(polynomial_error(n, (((0,) * many, (1, 2)),)), None if many == n else ("term", 0))

    def test_order(self):
        for rows in itertools.product(itertools.product(range(2), repeat=2), repeat=3):
            told = [place for place in (1, 2) if rows[place] <= rows[place - 1]]
            value = tuple((powers, (-1, 3)) for powers in rows)
            self.check_same(polynomial_error(2, value), ("order", told[0]) if told else None)
        self.check_same(polynomial_error(0, (((), (1, 1)), ((), (1, 1)))), ("order", 1))
        self.check_same(polynomial_error(3, (((0, 9, 9), (1, 1)), ((1, 0, 0), (1, 1)), ((0, 9, 8), (1, 1)))), ("order", 2))

    def test_terms_ahead_of_order(self):
        self.check_same(polynomial_error(2, MID[::-1] + (None,)), ("term", 2))
        self.check_same(polynomial_error(2, MID + MID + (((0, 0), (0, 1)),)), ("term", 4))
        self.check_same(polynomial_error(2, list(MID[::-1])), "form")

    def test_values_of_all_kinds(self):
        for value in drawn.values():
            if isinstance(value, tuple) and value != ():
                self.check_same(polynomial_error(2, value), ("term", 0))
            self.check_same(polynomial_error(2, (MID[0], value)), ("term", 1))


class ReckoningTest(KindsCase):
    def check_polynomial(self, n, found, told):
        self.assertIsNone(polynomial_error(n, found))
        self.check_same(found, told)

    def test_added_and_multiplied(self):
        draw = drawn.drawing("reckoning")
        for _ in range(2500):
            n, most = draw.randint(0, 6), draw.choice((1, 2, 6, 60))
            one, other = [drawn.polynomial(draw, n, draw.choice((0, 1, 2, 5, 12)), most, draw.choice((3, 1000))) for _ in range(2)]
            before = copy.deepcopy((one, other))
            self.check_polynomial(n, added(one, other), tuple_of(sum_of(table(one), table(other))))
            self.check_polynomial(n, multiplied(one, other), tuple_of(product_of(table(one), table(other))))
            self.check_same((one, other), before)
            self.check_same(added(other, one), added(one, other))
            self.check_same(multiplied(other, one), multiplied(one, other))

    def test_some_dozens_of_terms(self):
        draw = drawn.drawing("dozens")
        for n in range(1, 7):
            one, other = drawn.polynomial(draw, n, 60, 60, 10 ** 30), drawn.polynomial(draw, n, 40, 3, 10 ** 30)
            self.check_polynomial(n, added(one, other), tuple_of(sum_of(table(one), table(other))))
            self.check_polynomial(n, multiplied(one, other), tuple_of(product_of(table(one), table(other))))

    def test_terms_fall_away(self):
        draw = drawn.drawing("fall away")
        for _ in range(500):
            n = draw.randint(0, 4)
            one = drawn.polynomial(draw, n, 6, 3)
            minus = tuple((powers, (-a, b)) for powers, (a, b) in one)
            self.check_same(added(one, minus), ())
            for place in range(len(one)):
                self.check_polynomial(n, added(one, minus[:place]), one[place:])
                self.check_polynomial(n, added(one, minus[place:]), one[:place])
        one = (((0,), (1, 1)), ((1,), (1, 1)))
        self.check_same(multiplied(one, (((0,), (1, 1)), ((1,), (-1, 1)))), (((0,), (1, 1)), ((2,), (-1, 1))))
        self.check_same(added((((0,), (1, 3)),), (((0,), (1, 6)),)), (((0,), (1, 2)),))

    def test_nothing(self):
        for one in ((), MID, X):
            self.check_same(added(one, ()), one)
            self.check_same(added((), one), one)
            self.check_same(multiplied(one, ()), ())
            self.check_same(multiplied((), one), ())
            self.check_same(put_in(2, (), 1, one), ())

    def test_great_fractions(self):
        one = (((0,), (GREAT, GREAT + 1)), ((60,), (-GREAT - 1, GREAT - 1)))
        two = (((1,), (GREAT + 3, 1)), ((2,), (1, GREAT + 7)))
        for left, right in itertools.product((one, two), repeat=2):
            self.check_polynomial(1, added(left, right), tuple_of(sum_of(table(left), table(right))))
            self.check_polynomial(1, multiplied(left, right), tuple_of(product_of(table(left), table(right))))
        self.check_polynomial(1, put_in(1, two, 0, one), tuple_of(put_in_of(1, table(two), 0, table(one))))

    def test_what_was_returned_may_have_greater_powers(self):
        square, told = (((60, 1), (-1, 1)),), 60
        for _ in range(30):
            square, told = multiplied(square, square), told * 2
            self.assertEqual(square[0][0], (told, told // 60))
        grown = (((60, 0), (1, 1)),)
        for level in range(2, 30):
            grown = put_in(2, (((60, 0), (1, 1)),), 0, grown)
            self.assertEqual(grown, (((60 ** level, 0), (1, 1)),))
        self.assertEqual(added(grown, X), X + grown)

    def test_laws(self):
        draw = drawn.drawing("laws")
        for _ in range(300):
            n = draw.randint(1, 4)
            a, b, c = [drawn.polynomial(draw, n, 4, 4) for _ in range(3)]
            place = draw.randrange(n)
            self.check_same(multiplied(a, added(b, c)), added(multiplied(a, b), multiplied(a, c)))
            self.check_same(multiplied(multiplied(a, b), c), multiplied(a, multiplied(b, c)))
            self.check_same(put_in(n, added(a, b), place, c), added(put_in(n, a, place, c), put_in(n, b, place, c)))
            self.check_same(put_in(n, multiplied(a, b), place, c), multiplied(put_in(n, a, place, c), put_in(n, b, place, c)))


class PutInTest(KindsCase):
    def unit(self, n, place=None):
        powers = [0] * n
        if place is not None:
            powers[place] = 1
        return ((tuple(powers), (1, 1)),)

    def test_drawn_ones(self):
        draw = drawn.drawing("put in")
        for _ in range(1500):
            n = draw.randint(1, 6)
            one, other = drawn.polynomial(draw, n, draw.randint(0, 6), draw.choice((1, 3, 5))), drawn.polynomial(draw, n, draw.randint(0, 3), 3)
            place = draw.randrange(n)
            found = put_in(n, one, place, other)
            self.assertIsNone(polynomial_error(n, found))
            self.check_same(found, tuple_of(put_in_of(n, table(one), place, table(other))))

    def test_nothing_a_number_a_name(self):
        draw = drawn.drawing("put in plain ones")
        for _ in range(300):
            n = draw.randint(1, 6)
            one, place = drawn.polynomial(draw, n, 8, draw.choice((2, 60))), draw.randrange(n)
            self.check_same(put_in(n, one, place, ()), tuple(term for term in one if term[0][place] == 0))
            self.check_same(put_in(n, one, place, self.unit(n, place)), one)
            for number in (Fraction(1), Fraction(-2), Fraction(3, 7)):
                told = {}
                for powers, fraction in one:
                    rest = powers[:place] + (0,) + powers[place + 1:]
                    told[rest] = told.get(rest, 0) + worth(fraction) * number ** powers[place]
                self.check_same(put_in(n, one, place, ((self.unit(n)[0][0], pair(number)),)), tuple_of(told))
            other = draw.randrange(n)
            moved = {}
            for powers, fraction in one:
                changed = list(powers)
                changed[place] = 0
                changed[other] += powers[place]
                moved[tuple(changed)] = moved.get(tuple(changed), 0) + worth(fraction)
            self.check_same(put_in(n, one, place, self.unit(n, other)), tuple_of(moved))

    def test_sums_to_the_power_60(self):
        one = (((0,), (1, 2)), ((60,), (3, 1)))
        half = (((0,), (1, 2)), ((1,), (1, 2)))
        self.check_same(put_in(1, one, 0, half), tuple_of(put_in_of(1, table(one), 0, table(half))))
        two = (((0, 60), (1, 1)), ((1, 59), (-1, 1)))
        step = (((0, 0), (1, 3)), ((1, 1), (2, 3)))
        self.check_same(put_in(2, two, 1, step), tuple_of(put_in_of(2, table(two), 1, table(step))))

    def test_terms_fall_away(self):
        one = (((0, 2), (-1, 1)), ((2, 0), (1, 1)))
        self.check_same(put_in(2, one, 0, self.unit(2, 1)), ())
        self.check_same(put_in(1, (((0,), (-1, 4)), ((2,), (1, 1))), 0, (((0,), (1, 2)),)), ())
        self.check_same(put_in(1, (((1,), (1, 1)), ((2,), (1, 1))), 0, (((0,), (-1, 1)), ((1,), (1, 1)))), (((1,), (-1, 1)), ((2,), (1, 1))))


if __name__ == "__main__":
    unittest.main()
