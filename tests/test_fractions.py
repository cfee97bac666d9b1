"""[A3] to [A6] and the first point of [A9]: fractions and their texts."""

import copy
import inspect
import itertools
import math
import unittest
from fractions import Fraction

from everystart import fractions
from everystart.errors import BadText, NoName, ThrowError, TooMany, Unfit
from everystart.fractions import compared, fraction_text, lowest, read_fraction

GREAT = 10 ** 399
GREATEST = 10 ** 400 - 1


def small_fractions(bound):
    """Return all fractions of integers up to bound."""
    pairs = itertools.product(range(-bound, bound + 1), range(1, bound + 1))
    return [(a, b) for a, b in pairs if math.gcd(a, b) == 1]


def great_fractions():
    """Return fractions of integers of up to 400 figures, some of which lie close together."""
    return [
        (GREATEST, 1), (-GREATEST, 1), (1, GREATEST), (-1, GREATEST), (GREAT + 1, GREAT), (GREAT, GREAT + 1),
        (-GREAT, GREAT + 1), (GREATEST, GREATEST - 1), (GREATEST - 1, GREATEST), (GREATEST - 2, GREATEST - 1),
        (GREAT, 7), (2 ** 1300, 3 ** 800), (3 ** 800, 2 ** 1300), (-(3 ** 800), 2 ** 1300),
    ]


def worth(fraction):
    return Fraction(fraction[0], fraction[1])


class FractionCase(unittest.TestCase):
    def check_fraction(self, value):
        """Check that value is just a fraction, and no other thing that equals one."""
        self.assertIs(type(value), tuple)
        self.assertEqual([type(item) for item in value], [int, int])
        self.assertGreater(value[1], 0)
        self.assertEqual(math.gcd(*value), 1)


class CallsTest(unittest.TestCase):
    def test_arguments_have_the_names_that_are_told(self):
        told = {"lowest": ["a", "b"], "compared": ["one", "other"], "fraction_text": ["fraction"],
                "read_fraction": ["value"]}
        for name, names in told.items():
            with self.subTest(name=name):
                function = getattr(fractions, name)
                self.assertEqual(list(inspect.signature(function).parameters), names)
                self.assertEqual(function.__module__, "everystart.fractions")

    def test_calls_by_place_and_by_name_twice(self):
        for _ in range(2):
            self.assertEqual(lowest(6, -4), (-3, 2))
            self.assertEqual(lowest(b=-4, a=6), (-3, 2))
            self.assertEqual(lowest(6, b=-4), (-3, 2))
            self.assertEqual(compared((1, 3), (1, 2)), -1)
            self.assertEqual(compared(other=(1, 3), one=(1, 2)), 1)
            self.assertEqual(fraction_text((-3, 2)), "-3/2")
            self.assertEqual(fraction_text(fraction=(-3, 2)), "-3/2")
            self.assertEqual(read_fraction("-3/2"), (-3, 2))
            self.assertEqual(read_fraction(value="-3/2"), (-3, 2))

    def test_errors_by_place_and_by_name_twice(self):
        for _ in range(2):
            for call in (lambda: lowest(1, 0), lambda: lowest(b=0, a=1)):
                with self.assertRaises(Unfit) as caught:
                    call()
                self.assertEqual(vars(caught.exception), {})
            for call in (lambda: read_fraction("1/"), lambda: read_fraction(value="1/")):
                with self.assertRaises(BadText) as caught:
                    call()
                self.assertEqual(vars(caught.exception), {})

    def test_what_is_handed_in_stays_as_it_was(self):
        values = [["1/2"], {"1": 2}, ([1], {2: [3]}), [], {}]
        before = copy.deepcopy(values)
        for value in values:
            self.assertRaises(BadText, read_fraction, value)
            self.assertRaises(BadText, read_fraction, value=value)
        self.assertEqual(values, before)


class LowestTest(FractionCase):
    def test_small_ones(self):
        for a, b in itertools.product(range(-24, 25), repeat=2):
            if b:
                found = lowest(a, b)
                self.check_fraction(found)
                self.assertEqual(worth(found), Fraction(a, b))

    def test_nought_above(self):
        for b in (1, -1, 2, -2, 60, GREATEST, -GREATEST):
            self.assertEqual(lowest(0, b), (0, 1))

    def test_common_divisors(self):
        for a, b in ((-7, 3), (7, 3), (1, 1), (5, 8), (-1, 360)):
            for divisor in (1, -1, 2, -6, 2 ** 40, -(10 ** 390)):
                self.assertEqual(lowest(a * divisor, b * divisor), (a, b))

    def test_400_figures(self):
        for a, b in itertools.product((GREAT, GREATEST, GREATEST - 1, -GREAT, -GREATEST, 2 ** 1300, 6 ** 500), repeat=2):
            found = lowest(a, b)
            self.check_fraction(found)
            self.assertEqual(worth(found), Fraction(a, b))

    def test_unfit_just_for_nought_below(self):
        for a in (0, 1, -1, 3, 12, GREATEST, -GREATEST):
            with self.assertRaises(Unfit) as caught:
                lowest(a, 0)
            self.assertIs(type(caught.exception), Unfit)


class ComparedTest(unittest.TestCase):
    def check_both_ways(self, one, other):
        told = (worth(one) > worth(other)) - (worth(one) < worth(other))
        for found, awaited in ((compared(one, other), told), (compared(other, one), -told)):
            self.assertIs(type(found), int)
            self.assertEqual(found, awaited)

    def test_small_ones_and_turned_about(self):
        for one, other in itertools.product(small_fractions(7), repeat=2):
            self.check_both_ways(one, other)

    def test_less_equal_greater(self):
        self.assertEqual(compared((1, 3), (1, 2)), -1)
        self.assertEqual(compared((1, 2), (1, 2)), 0)
        self.assertEqual(compared((1, 2), (1, 3)), 1)

    def test_numbers_below_nought(self):
        self.assertEqual(compared((-1, 2), (-1, 3)), -1)
        self.assertEqual(compared((-1, 3), (-1, 2)), 1)
        self.assertEqual(compared((-5, 1), (0, 1)), -1)
        self.assertEqual(compared((-5, 1), (5, 1)), -1)
        self.assertEqual(compared((-2, 3), (-2, 3)), 0)

    def test_great_ones_that_lie_close_together(self):
        for one, other in itertools.product(great_fractions(), repeat=2):
            self.check_both_ways(one, other)
        self.assertEqual(compared((GREATEST - 1, GREATEST), (GREATEST - 2, GREATEST - 1)), 1)
        self.assertEqual(compared((-GREAT - 1, GREAT), (-GREAT, GREAT - 1)), 1)

    def test_nought_just_for_equal_ones(self):
        for one, other in itertools.product(small_fractions(6) + great_fractions(), repeat=2):
            self.assertEqual(compared(one, other) == 0, one == other)


class TextTest(FractionCase):
    def test_texts(self):
        told = {(0, 1): "0", (1, 1): "1", (-1, 1): "-1", (10, 1): "10", (1, 10): "1/10", (-20, 3): "-20/3",
                (GREAT, 1): "1" + "0" * 399, (-1, GREATEST): "-1/" + "9" * 400}
        for fraction, text in told.items():
            self.assertEqual(fraction_text(fraction), text)

    def test_each_fraction_comes_back_from_its_text(self):
        for fraction in small_fractions(25) + great_fractions():
            text = fraction_text(fraction)
            self.assertIs(type(text), str)
            found = read_fraction(text)
            self.check_fraction(found)
            self.assertEqual(found, fraction)

    def test_unlike_fractions_have_unlike_texts(self):
        all_of_them = small_fractions(25) + great_fractions()
        self.assertEqual(len({fraction_text(fraction) for fraction in all_of_them}), len(set(all_of_them)))

    def test_integers_at_the_edges_of_a_piece(self):
        for figures in (1, 2, 63, 64, 65, 127, 128, 129, 192, 399, 400):
            for number in (10 ** figures - 1, 10 ** figures, 10 ** figures + 1, 10 ** (figures - 1) * 7 + 3):
                self.assertEqual(fraction_text((number, 1)), str(number))
                self.assertEqual(fraction_text((-number, 1)), str(-number))
                self.assertEqual(fraction_text((1, number + 1)), "1/" + str(number + 1))

    def test_returned_fractions_may_have_more_figures_than_python_writes(self):
        for figures in (401, 4299, 4300, 4301, 5000, 24000):
            self.assertEqual(fraction_text((10 ** figures, 1)), "1" + "0" * figures)
            self.assertEqual(fraction_text((-(10 ** figures), 7)), "-1" + "0" * figures + "/7")
            self.assertEqual(fraction_text((-2, 10 ** figures + 1)), "-2/1" + "0" * (figures - 1) + "1")
            self.assertEqual(fraction_text((10 ** figures - 2, 10 ** figures - 1)),
                             "9" * (figures - 1) + "8/" + "9" * figures)

    def test_400_figures_are_read(self):
        most, other = "9" * 400, "1" + "0" * 399
        self.assertEqual(read_fraction(most), (GREATEST, 1))
        self.assertEqual(read_fraction("-" + most), (-GREATEST, 1))
        self.assertEqual(read_fraction("1/" + most), (1, GREATEST))
        self.assertEqual(read_fraction("-1/" + other), (-1, GREAT))
        self.assertEqual(read_fraction("-" + most + "/" + other), (-GREATEST, GREAT))


class BadTextTest(unittest.TestCase):
    def check_bad(self, values):
        for value in values:
            with self.subTest(value=repr(value)[:60] if not isinstance(value, int) else "an integer"):
                with self.assertRaises(BadText) as caught:
                    read_fraction(value)
                self.assertIs(type(caught.exception), BadText)

    def test_noughts_ahead(self):
        self.check_bad(["00", "01", "-01", "007", "01/2", "1/02", "00/1", "0" * 400, "1/" + "0" * 399 + "2"])

    def test_not_in_lowest_terms(self):
        self.check_bad(["2/6", "-2/6", "2/2", "-3/3", "10/4", "0/2", "0/7", "12/18", "6/" + "2" * 400])

    def test_over_one_and_over_nought(self):
        self.check_bad(["4/1", "0/1", "-4/1", "1/1", "4/0", "0/0", "1/0", "-1/0"])

    def test_noughts_with_a_sign(self):
        self.check_bad(["-0", "-0/2", "+0", "1/-0", "--0", "-0/1", "-00"])

    def test_signs_ahead_or_amid(self):
        self.check_bad(["+1", "+1/2", "--1", "-+1", "+-1", "1/-2", "-1/-2", "1/+2", "1-", "1-2", "1+2", "1/2-", "-/2",
                        "-", "+", "--", "/-2", "-1--2"])

    def test_blanks_and_line_feeds(self):
        self.check_bad([" ", " 1", "1 ", "1 /2", "1/ 2", " 1/2", "1/2 ", "- 1", "1 2", "\n", "1\n", "\n1", "1/2\n",
                        "1/\n2", "1\n/2", "1\t", "\t1", "1\r"])

    def test_parts_that_lack_or_are_too_many(self):
        self.check_bad(["", "/", "1/", "/2", "-/", "//", "1//2", "1/2/3", "1/2/", "/1/2", "2/1/1"])

    def test_other_signs(self):
        self.check_bad(["x", "1x", "x/2", "1/x", "0x1", "1_0", "1_000", "1,000", "1.0", "1.", ".5", "1e3", "1:2", "1\\2",
                        "half", "None", "True", "(1, 2)", "1/2;", "inf", "nan", "0b1", "{}", "1/1_0"])

    def test_figures_of_other_alphabets(self):
        self.check_bad(["\u0661", "1/\u0663", "\u00b2", "1\u00b2", "\uff11", "\u2212" + "1", "\u00bd", "1\u00a0", "\u0967"])

    def test_more_than_400_figures(self):
        more = "1" + "0" * 400
        self.check_bad([more, "-" + more, "1/" + more, "-1/" + more, more + "/3", more + "/" + more, "9" * 401,
                        "1/" + "9" * 401, "9" * 5000, "-" + "9" * 5000, "1/" + "9" * 5000, "9" * 20000,
                        "1/" + "9" * 19998, "0" * 401, "0" * 20000])

    def test_values_of_other_kinds(self):
        self.check_bad([None, True, False, 0, 1, -1, 12, 10 ** 399, 10 ** 9000, (), (1, 2), (0, 1), ("1/2",), ("1", "2"),
                        [], ["1/2"], ["1", "/", "2"], [1, 2], {}, {"1/2": "1/2"}, {1: 2}, ((1, 2),), ([{}],)])

    def test_values_that_were_raised_and_built(self):
        self.check_bad([BadText(), Unfit(), NoName("1/2"), TooMany(12), lowest(1, 2), lowest(4, 2)])

    def test_it_is_an_error_of_this_package(self):
        for caught in (ThrowError, ValueError):
            self.assertRaises(caught, read_fraction, "2/6")


if __name__ == "__main__":
    unittest.main()
