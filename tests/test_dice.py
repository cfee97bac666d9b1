"""[A3] and [A7] to [A9]: dice."""

import copy
import inspect
import itertools
import math
import unittest
from fractions import Fraction

from everystart import dice
from everystart.dice import die_error, die_mean, least_side, side_share, sum_share
from tests import drawn
from tests.drawn import pair, worth
from tests.kinds import KindsCase, shown

GREAT = 10 ** 399
COIN = ("die", ((0, (1, 2)), (1, (1, 2))))
TILLS = [
    ("till", (1, 2)), ("till", (1, 3)), ("till", (5, 6)), ("till", (1, GREAT)), ("till", (GREAT - 1, GREAT)),
    ("till", (GREAT, GREAT + 1)), ("till", (3 ** 800, 2 ** 1300)),
]
SIDED = [
    COIN, ("die", ((0, (1, 1)),)), ("die", ((9, (1, 1)),)), ("die", ((0, (1, GREAT)), (9, (GREAT - 1, GREAT)))),
    ("die", tuple((number, (1, 6)) for number in range(1, 7))), ("die", tuple((number, (1, 6)) for number in range(4, 10))),
    ("die", ((2, (1, 6)), (3, (1, 3)), (5, (1, 2)))),
]


def sums(die, many, most):
    """Return the shares of the sums 0 to most of many throws, added up one throw behind another."""
    throw = [(number, worth(side_of(die, number))) for number in range(most + 1)]
    whole = math.lcm(*[share.denominator for _, share in throw])
    # Weights in the place of shares: adding up thousands of fractions would take long.
    throw = [(number, int(share * whole)) for number, share in throw if share]
    weights = [1] + [0] * most
    for _ in range(many):
        weights = [sum(weights[number - side] * weight for side, weight in throw if side <= number)
                   for number in range(most + 1)]
    return [Fraction(weight, whole ** many) for weight in weights]


def side_of(die, number):
    """Return the share of number, as [A7] tells it."""
    if die[0] == "till":
        return pair(worth(die[1]) * (1 - worth(die[1])) ** number)
    return dict(die[1]).get(number, (0, 1))


class CallsTest(KindsCase):
    CALLS = {
        "die_error": (["value"], [COIN], None),
        "side_share": (["die", "number"], [COIN, 1], (1, 2)),
        "die_mean": (["die"], [COIN], (1, 2)),
        "least_side": (["die"], [COIN], 0),
        "sum_share": (["die", "many", "number"], [COIN, 2, 1], (1, 2)),
    }

    def test_by_place_and_by_name_twice(self):
        for name, (names, arguments, told) in self.CALLS.items():
            function = getattr(dice, name)
            self.assertEqual(function.__module__, "everystart.dice")
            self.assertEqual(list(inspect.signature(function).parameters), names)
            for _ in range(2):
                self.check_same(function(*arguments), told)
                self.check_same(function(**dict(zip(reversed(names), reversed(arguments)))), told)

    def test_what_is_handed_in_stays_as_it_was(self):
        values = drawn.values() + [["die", [(0, (1, 1))]], ("die", [(0, [1, 1])]), ("die", ([0, (1, 1)],)), {"till": (1, 2)}]
        for value in values:
            before = copy.deepcopy(value)
            error = die_error(value)
            self.check_same(die_error(value=value), error)
            if not isinstance(value, ValueError):
                self.assertEqual(value, before)


class DieErrorTest(KindsCase):
    def test_dice(self):
        draw = drawn.drawing("dice")
        for die in TILLS + SIDED + [drawn.die(draw) for _ in range(2000)]:
            self.assertIsNone(die_error(die))

    def test_form(self):
        side = (0, (1, 1))
        seven = tuple((number, (1, 7)) for number in range(7))
        values = [
            ("die", ()), ("die", seven), ("die", [side]), ("die", {0: (1, 1)}), ("die", None), ("die", 1), ("die", "die"),
            ("die",), ("die", (side,), ()), ("die", side, side), ["die", (side,)], ["till", (1, 2)], ("Die", (side,)),
            ("dice", (side,)), ("", (side,)), (b"die", (side,)), (None, (side,)), (0, (side,)), (["die"], (side,)),
            ("till",), ("till", (1, 2), (1, 2)), ("tills", (1, 2)), ((side,), "die"), ((1, 2), "till"), (("die",), (side,)),
            (True, (side,)), ({}, (side,)), ("set", (side,)), ("die", ((7, 1),) * 7),
        ]
        for value in values + drawn.values():
            with self.subTest(value=shown(value)):
                self.check_same(die_error(value), "form")

    def test_share_of_a_till(self):
        shares = [
            (1, 1), (0, 1), (2, 4), (-1, 2), (3, 2), (1, -2), (-1, -2), (0, 0), (1, 0), (2, 1), (True, 2), (1, True), (1,),
            (1, 2, 3), [1, 2], "1/2", 1, 0, None, True, (), ("1", "2"), ((1, 2), 3), (None, 2), {1: 2}, (GREAT, GREAT),
            (2, 2 * GREAT), (GREAT + 1, GREAT),
        ]
        for share in shares:
            with self.subTest(share=shown(share)):
                self.check_same(die_error(("till", share)), "share")

    def test_side(self):
        wrong = [
            (10, (1, 2)), (-1, (1, 2)), (True, (1, 2)), (False, (1, 2)), (None, (1, 2)), ("0", (1, 2)), ((0,), (1, 2)),
            (5, (0, 1)), (5, (-1, 2)), (5, (2, 4)), (5, (1, 0)), (5, (1, -2)), (5, [1, 2]), (5, "1/2"), (5, 1), (5, None),
            (5, (True, 2)), (5, (1, True)), (5,), (5, (1, 2), 0), [5, (1, 2)], {5: (1, 2)}, 5, "side", None, (), True,
            ((1, 2), 5), (5, (1,)), (5, (1, 2, 3)), (GREAT, (1, 2)),
        ]
        right = tuple((number, (1, 6)) for number in (0, 1, 2, 3, 4, 8))
        for side in wrong:
            for many in range(1, 7):
                for place in range(many):
                    sides = right[:place] + (side,) + right[place + 1:many]
                    self.check_same(die_error(("die", sides)), ("side", place))

    def test_order(self):
        half, third = (1, 2), (1, 3)
        self.check_same(die_error(("die", ((1, half), (1, half)))), ("order", 1))
        self.check_same(die_error(("die", ((9, half), (0, half)))), ("order", 1))
        self.check_same(die_error(("die", ((0, third), (2, third), (1, third)))), ("order", 2))
        self.check_same(die_error(("die", ((0, third), (2, third), (2, third)))), ("order", 2))
        self.check_same(die_error(("die", ((3, third), (2, third), (1, third)))), ("order", 1))
        for numbers in itertools.product(range(3), repeat=4):
            sides = tuple((number, (1, 4)) for number in numbers)
            falling = [place for place in range(1, 4) if numbers[place] <= numbers[place - 1]]
            self.check_same(die_error(("die", sides)), ("order", falling[0]) if falling else None)

    def test_sum(self):
        near = (GREAT - 1, 2 * GREAT - 1)
        wrong = [
            ((0, (1, 2)),), ((0, (2, 1)),), ((0, (3, 2)),), ((0, (1, 2)), (1, (1, 3))), ((0, (1, 2)), (1, (1, 2)), (2, (1, 2))),
            ((0, (1, 1)), (1, (1, 1))), ((0, (1, 2)), (1, near)), ((0, (1, GREAT)),), ((0, near), (1, near)),
            ((0, (GREAT - 1, GREAT)), (9, (1, GREAT + 1))), tuple((number, (1, 5)) for number in range(6)),
            tuple((number, (1, 7)) for number in range(6)),
        ]
        for sides in wrong:
            self.check_same(die_error(("die", sides)), "sum")

    def test_each_kind_is_looked_for_in_all_sides_ahead_of_the_next_kind(self):
        half = (1, 2)
        self.check_same(die_error(("die", ((1, half), (0, half), (2, (0, 1))))), ("side", 2))
        self.check_same(die_error(("die", ((1, half), (1, half), (10, half)))), ("side", 2))
        self.check_same(die_error(("die", ((3, half), (2, (2, 4)), (10, half)))), ("side", 1))
        self.check_same(die_error(("die", ((3, half), (2, half), (1, half)))), ("order", 1))
        self.check_same(die_error(("die", ((2, half), (3, half), (1, half)))), ("order", 2))
        self.check_same(die_error(("die", ((2, (1, 3)), (2, (1, 3))))), ("order", 1))
        self.check_same(die_error(("die", ((10, half),) * 7)), "form")

    def test_spoilt_dice(self):
        """Each die with a number, a share or a word exchanged, a side left out or put in."""
        draw = drawn.drawing("spoilt dice")
        for _ in range(1500):
            word, sides = drawn.sided(draw)
            place = draw.randrange(len(sides))
            number, share = sides[place]
            ahead, behind = sides[:place], sides[place + 1:]
            lesser = pair(worth(share) / 2)
            self.check_same(die_error((word, ahead + ((number, lesser),) + behind)), "sum")
            self.check_same(die_error((word, ahead + ((number, (0, 1)),) + behind)), ("side", place))
            self.check_same(die_error((word, ahead + ((number + 10, share),) + behind)), ("side", place))
            self.check_same(die_error(("dye", sides)), "form")
            self.check_same(die_error((word, ahead + behind)), "sum" if len(sides) > 1 else "form")
            twice = die_error((word, ahead + ((number, share),) * 2 + behind))
            self.check_same(twice, ("order", place + 1) if len(sides) < 6 else "form")


class SharesTest(KindsCase):
    def test_sides(self):
        draw = drawn.drawing("sides")
        for die in TILLS + SIDED + [drawn.die(draw) for _ in range(2000)]:
            for number in list(range(13)) + [59, 60, 61, 75]:
                self.check_same(side_share(die, number), side_of(die, number))

    def test_all_shares_are_1_together(self):
        draw = drawn.drawing("all shares")
        for die in SIDED + [drawn.sided(draw) for _ in range(500)]:
            self.assertEqual(sum(worth(side_share(die, number)) for number in range(13)), 1)
        for die in TILLS + [("till", drawn.chance(draw, 50)) for _ in range(100)]:
            total = Fraction(0)
            for many in range(20):
                self.assertEqual(total, 1 - (1 - worth(die[1])) ** many)
                total += worth(side_share(die, many))

    def test_mean_and_least_side(self):
        draw = drawn.drawing("means")
        for die in SIDED + [drawn.sided(draw) for _ in range(2000)]:
            self.check_same(die_mean(die), pair(sum(number * worth(share) for number, share in die[1])))
            self.check_same(least_side(die), min(number for number, _ in die[1]))
        for die in TILLS + [("till", drawn.chance(draw, 50)) for _ in range(300)]:
            self.check_same(die_mean(die), pair((1 - worth(die[1])) / worth(die[1])))
            self.check_same(least_side(die), 0)

    def test_mean_of_a_till_is_what_the_sum_of_its_numbers_comes_near_to(self):
        for die in (("till", (1, 2)), ("till", (2, 3)), ("till", (1, 3))):
            near = sum(number * worth(side_share(die, number)) for number in range(200))
            self.assertLess(abs(near - worth(die_mean(die))), Fraction(1, 10 ** 20))


class SumsTest(KindsCase):
    def test_drawn_dice(self):
        draw = drawn.drawing("sums")
        for _ in range(2500):
            die, many = drawn.die(draw), draw.choice((0, 1, 2, 3, 4, 5, 6))
            shares = sums(die, many, 14)
            for number in range(15):
                self.check_same(sum_share(die, many, number), pair(shares[number]))

    def test_twelve_throws(self):
        draw = drawn.drawing("twelve")
        for _ in range(40):
            die = drawn.die(draw)
            for many in (7, 11, 12):
                shares = sums(die, many, 60)
                for number in range(61):
                    self.check_same(sum_share(die, many, number), pair(shares[number]))

    def test_thirty_and_sixty_throws(self):
        draw = drawn.drawing("sixty")
        for die in SIDED[:3] + SIDED[4:] + TILLS[:3] + [drawn.die(draw) for _ in range(10)]:
            for many in (30, 60, 64):
                shares = sums(die, many, 66)
                for number in (0, 1, 2, 12, 29, 30, 31, 58, 59, 60, 61, 66):
                    self.check_same(sum_share(die, many, number), pair(shares[number]))

    def test_great_integers(self):
        for die in [die for die in TILLS + SIDED if GREAT // 10 < max(worth(die[1] if die[0] == "till" else die[1][0][1])
                                                                     .as_integer_ratio())]:
            for many in range(4):
                shares = sums(die, many, 10)
                for number in range(11):
                    self.check_same(sum_share(die, many, number), pair(shares[number]))
            self.assertEqual(worth(sum_share(die, 60, 0)), worth(side_share(die, 0)) ** 60)

    def test_no_throw_and_one(self):
        draw = drawn.drawing("no throw")
        for die in TILLS + SIDED + [drawn.die(draw) for _ in range(300)]:
            self.check_same([sum_share(die, 0, number) for number in (0, 1, 2, 60)], [(1, 1)] + [(0, 1)] * 3)
            for number in list(range(13)) + [59, 60, 61]:
                self.check_same(sum_share(die, 1, number), side_share(die, number))

    def test_throws_in_two_parts(self):
        draw = drawn.drawing("two parts")
        for _ in range(300):
            die, one, other, number = drawn.die(draw), draw.randint(0, 8), draw.randint(0, 8), draw.randint(0, 25)
            total = sum(worth(sum_share(die, one, i)) * worth(sum_share(die, other, number - i)) for i in range(number + 1))
            self.check_same(sum_share(die, one + other, number), pair(total))

    def test_none_is_below_the_least_and_the_least_comes_by_its_side_alone(self):
        draw = drawn.drawing("least")
        for die in SIDED[:4] + TILLS[:3] + [drawn.die(draw) for _ in range(300)]:
            least = least_side(die)
            for many in (1, 2, 5, 12):
                for number in range(max(0, least * many - 3), least * many):
                    self.check_same(sum_share(die, many, number), (0, 1))
                self.assertEqual(worth(sum_share(die, many, least * many)), worth(side_share(die, least)) ** many)

    def test_means_of_many_throws(self):
        draw = drawn.drawing("many means")
        for _ in range(100):
            die, many = drawn.sided(draw), draw.randint(0, 5)
            mean = sum(number * worth(sum_share(die, many, number)) for number in range(46))
            self.assertEqual(mean, many * worth(die_mean(die)))


if __name__ == "__main__":
    unittest.main()
