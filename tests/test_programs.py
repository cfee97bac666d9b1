"""[A3], [B1] to [B3] and [B5]: programs."""

import copy
import inspect
import itertools
import unittest

from everystart import programs
from everystart.errors import TooMany, Unfit
from everystart.programs import (
    is_test, names_error, program_error, put_behind, step_at, steps_error, ways, without,
)
from tests import drawn
from tests.kinds import KindsCase, shown

COIN = ("die", ((0, (1, 2)), (1, (1, 2))))
LESS = ("less", 0)
WORDS = ("as", "by", "die", "do", "either", "else", "if", "loop", "or", "program", "seen", "skip", "till", "while")
WALK = (("x", "y"), (("throw", 0, COIN), ("if", (0, "from", 1), (("add", 1, 2),), (("less", 1),))))


def nested(deep, inner=()):
    """Return steps in which an "if" or "either" stands within another one, as many as deep tells."""
    steps = inner
    for level in range(deep):
        if level % 2:
            steps = (("if", (0, "below", 1), steps, ()),)
        else:
            steps = (("either", (1, 2), (LESS,), steps),)
    return steps


def at_each_place(step):
    """Return pairs of steps of one counter in which step stands, and of its way."""
    found = [((LESS,) * place + (step,) + (LESS,) * 2, (place,)) for place in range(3)]
    found.append(((LESS, ("if", (0, "from", 2), (LESS, step), (LESS,))), (1, 0, 1)))
    found.append(((("if", (0, "from", 2), (LESS, LESS), (step, LESS)), LESS), (0, 1, 0)))
    found.append(((("either", (1, 3), (step,), ()),), (0, 0, 0)))
    found.append(((("either", (1, 3), (), (LESS, ("if", (0, "below", 1), (), (LESS, step)))),), (0, 1, 1, 1, 1)))
    return found


def walked(steps, way=()):
    """Return the ways of all steps, in order: an own going through them."""
    found = ()
    for place, step in enumerate(steps):
        found += (way + (place,),)
        if step[0] in ("if", "either"):
            found += walked(step[2], way + (place, 0)) + walked(step[3], way + (place, 1))
    return found


class CallsTest(KindsCase):
    CALLS = {
        "names_error": (["value"], [("x", "if")], ("name", 1)),
        "is_test": (["many", "value"], [2, (1, "from", 4)], True),
        "steps_error": (["many", "value"], [1, (("less", 1),)], ("counter", (0,))),
        "program_error": (["value"], [WALK], None),
        "ways": (["program"], [WALK], ((0,), (1,), (1, 0, 0), (1, 1, 0))),
        "step_at": (["program", "way"], [WALK, (1, 0, 0)], ("add", 1, 2)),
        "without": (["program", "way"], [WALK, (1,)], (("x", "y"), WALK[1][:1])),
        "put_behind": (["one", "other"], [(("a",), ()), (("b",), (LESS,))], (("a",), (LESS,))),
    }

    def test_by_place_and_by_name_twice(self):
        for name, (names, arguments, told) in self.CALLS.items():
            function = getattr(programs, name)
            self.assertEqual(function.__module__, "everystart.programs")
            self.assertEqual(list(inspect.signature(function).parameters), names)
            for _ in range(2):
                self.check_same(function(*arguments), told)
                self.check_same(function(**dict(zip(reversed(names), reversed(arguments)))), told)

    def test_what_is_handed_in_stays_as_it_was(self):
        wrong = [["x"], [WALK], (["x"], []), (("x",), [LESS]), {"x": [LESS]}, (("x",), (["less", 0],)), (("x",), ({0: [1]},))]
        for value in wrong + drawn.values():
            before = copy.deepcopy(value)
            for _ in range(2):
                names_error(value)
                is_test(2, value)
                steps_error(2, value)
                program_error(value)
                self.assertRaises(Unfit, step_at, WALK, value)
                self.assertRaises(Unfit, without, WALK, value)
            if not isinstance(value, ValueError):
                self.assertEqual(value, before)


class NamesTest(KindsCase):
    def test_names(self):
        for names in (("x",), ("a", "b", "c"), ("abcdefgh", "z"), ("ass", "dies", "iff"), ("a", "aa", "aaa"), ("s", "skipper")):
            self.assertIsNone(names_error(names))
        draw = drawn.drawing("names")
        for _ in range(500):
            names = tuple({"".join(draw.choices("qxyz", k=draw.randint(1, 8))): 0 for _ in range(draw.randint(1, 3))})
            self.assertIsNone(names_error(names))

    def test_form(self):
        for value in ((), ("a", "b", "c", "d"), ["x"], "x", {"x": 0}, {"x"}, None, 1, True, b"x", (1,) * 4, ("x", "x", "x", "x")):
            self.check_same(names_error(value), "form")

    def test_each_word_and_other_wrong_names_at_each_place(self):
        wrong = list(WORDS) + [
            "", "abcdefghi", "X", "aB", "a1", "1", "a b", " a", "a ", "a_b", "_", "a-b", "a\n", "\n", "\u00e4", "\u03b1", "a.",
            None, 0, True, 5, b"x", ("x",), ["x"], {"x": 1}, (), "a" * 20000,
        ]
        for name in wrong:
            for place in range(3):
                names = ("x", "y", "z")[:place] + (name,)
                for value in (names, (names + ("q", "r"))[:3]):
                    with self.subTest(value=shown(value)):
                        self.check_same(names_error(value), ("name", place))

    def test_twice(self):
        self.check_same(names_error(("x", "x")), ("twice", 1))
        self.check_same(names_error(("x", "y", "y")), ("twice", 2))
        self.check_same(names_error(("y", "x", "y")), ("twice", 2))
        self.check_same(names_error(("x", "x", "x")), ("twice", 1))
        self.check_same(names_error(("x", "x", "X")), ("name", 2))
        self.check_same(names_error(("as", "as")), ("name", 0))

    def test_values_of_all_kinds(self):
        for value in drawn.values():
            found = names_error(value)
            if isinstance(value, tuple) and 1 <= len(value) <= 3:
                self.assertIn(found, [("name", 0), ("name", 1), None])
            else:
                self.check_same(found, "form")


class IsTestTest(KindsCase):
    def test_tests(self):
        for many in (1, 2, 3):
            for counter, word, number in itertools.product(range(-1, 5), ("below", "from"), range(-1, 7)):
                told = 0 <= counter < many and 1 <= number <= 4
                self.check_same(is_test(many, (counter, word, number)), told)

    def test_wrong_items(self):
        right = (0, "below", 1)
        for place, wrong in (
            (0, [True, False, None, "0", (0,), [0], 3, -1, {}]), (1, ["", "above", "Below", "below ", None, 0, True, b"from", ("from",), []]),
            (2, [True, False, None, "1", (1,), [1], 0, 5, -1, 10 ** 399, {}]),
        ):
            for item in wrong:
                value = right[:place] + (item,) + right[place + 1:]
                self.check_same(is_test(3, value), False)
        self.check_same(is_test(3, (False, "below", True)), False)
        for value in (right + (1,), right[:2], (), list(right), None, "below", 0, {0: "below"}):
            self.check_same(is_test(3, value), False)

    def test_values_of_all_kinds(self):
        for value in drawn.values():
            self.check_same(is_test(3, value), False)


class StepsErrorTest(KindsCase):
    def check_wrong(self, word, steps):
        for step in steps:
            for value, way in at_each_place(step):
                with self.subTest(step=shown(step), way=way):
                    self.check_same(steps_error(1, value), (word, way))
                    self.check_same(program_error((("x",), value)), ("steps", (word, way)))

    def test_right_ones(self):
        draw = drawn.drawing("right steps")
        for many in (1, 2, 3):
            for _ in range(500):
                steps = drawn.Steps(draw, many, tills=3, sums=5).steps(draw.randint(0, 40))
                self.assertIsNone(steps_error(many, steps))
                self.assertIsNone(program_error((drawn.NAMES[:many], steps)))
        for step in (("set", 0, 0), ("set", 0, 20), ("add", 0, 1), ("add", 0, 20), ("sum", 0, COIN, 0), ("seen", (0, "below", 4))):
            self.assertIsNone(steps_error(1, (step,)))

    def test_form(self):
        for value in ([LESS], [], None, "less", 0, True, {}, {0: LESS}, LESS[0]):
            self.check_same(steps_error(1, value), ("form", ()))
            self.check_same(program_error((("x",), value)), ("steps", ("form", ())))

    def test_step(self):
        half = (1, 2)
        self.check_wrong("step", [
            None, 0, True, "less", "", (), [], {}, ["less", 0], [("less", 0)], {"less": 0}, (("less", 0),), ("less",),
            ("less", 0, 1), ("Less", 0), ("les", 0), ("", 0), (b"less", 0), (None, 0), (["less"], 0), ({}, 0), (0, 0), (True,),
            ("set", 0), ("set", 0, 1, 1), ("add", 0), ("add", 0, 1, 0), ("throw", 0), ("throw", 0, COIN, 0), ("sum", 0, COIN),
            ("sum", 0, COIN, 0, 0), ("seen",), ("seen", 0, "below", 1), ("skip",), ("do", "x"), ("while", (0, "from", 1), ()),
            ("if", (0, "from", 1), ()), ("if", (0, "from", 1), (), (), ()), ("if", (0, "from", 1), [], ()),
            ("if", (0, "from", 1), (), []), ("if", (0, "from", 1), (), None), ("if", (0, "from", 1), "", ()),
            ("if", (0, "from", 1), {}, {}), ("either", half, ()), ("either", half, (), (), ()), ("either", half, [], ()),
            ("either", half, (), 0), ("either", half, LESS, None), ("If", (0, "from", 1), (), ()), ("or", half, (), ()),
        ])

    def test_counter(self):
        for counter in (-1, 1, 2, 10 ** 399, True, False, None, "x", "0", (0,), [0], {}, 0.0):
            self.check_wrong("counter", [
                ("set", counter, 0), ("add", counter, 1), ("less", counter), ("throw", counter, COIN), ("sum", counter, COIN, 0),
                ("sum", 0, COIN, counter), ("sum", counter, COIN, counter),
            ])

    def test_counters_by_how_many_there_are(self):
        for many, counter in itertools.product((1, 2, 3), range(4)):
            told = None if counter < many else ("counter", (0,))
            self.check_same(steps_error(many, (("less", counter),)), told)
            self.check_same(steps_error(many, (("sum", 0, COIN, counter),)), told)

    def test_number(self):
        for number in (-1, 21, 10 ** 399, -(10 ** 399), True, False, None, "1", (1,), [1], {}):
            self.check_wrong("number", [("set", 0, number), ("add", 0, number)])
        self.check_wrong("number", [("add", 0, 0)])

    def test_die(self):
        wrong = [None, "die", (), ("die", ()), ("till", (1, 1)), ("till", (2, 4)), list(COIN), ("die", ((0, (1, 3)),)), 0, True, COIN[1]]
        for die in wrong:
            self.check_wrong("die", [("throw", 0, die), ("sum", 0, die, 0)])

    def test_test(self):
        wrong = [None, (), (1, "from", 1), (0, "from", 0), (0, "from", 5), (0, "above", 1), [0, "from", 1], (0, "from"), (True, "from", 1), 0,
                 (False, "from", 1), (0, "below", True), "x >= 1"]
        for test in wrong:
            self.check_wrong("test", [("seen", test), ("if", test, (), ()), ("if", test, (LESS,), (("less", 5), "less"))])

    def test_share(self):
        wrong = [(0, 1), (1, 1), (2, 1), (-1, 2), (3, 2), (2, 4), (1, 0), (1, True), (True, 2), [1, 2], "1/2", 1, None, (1,), (1, 2, 3)]
        for share in wrong:
            self.check_wrong("share", [("either", share, (), ()), ("either", share, (("less", 5),), (None,))])

    def test_forty_steps_and_forty_one(self):
        draw = drawn.drawing("forty")
        self.assertIsNone(steps_error(1, (LESS,) * 40))
        self.check_same(steps_error(1, (LESS,) * 41), ("many", ()))
        self.check_same(steps_error(1, (None,) * 41), ("many", ()))
        self.check_same(steps_error(1, (None,) * 40), ("step", (0,)))
        for word, chooser in (("if", (0, "from", 1)), ("either", (1, 2))):
            self.assertIsNone(steps_error(1, ((word, chooser, (LESS,) * 20, (LESS,) * 19),)))
            self.check_same(steps_error(1, ((word, chooser, (LESS,) * 20, (LESS,) * 20),)), ("many", ()))
            # Those in wrong ones count as well, if the last two items are tuples.
            self.check_same(steps_error(1, ((word, None, (LESS,) * 20, (LESS,) * 20),)), ("many", ()))
            self.check_same(steps_error(1, ((word, None, (LESS,) * 40, [LESS]),)), ("step", (0,)))
            self.check_same(steps_error(1, ((word, None, [LESS], (LESS,) * 40),)), ("step", (0,)))
            self.check_same(steps_error(1, (("seen", None, (LESS,) * 40, (LESS,)),)), ("step", (0,)))
            self.check_same(steps_error(1, ((word, chooser, (LESS,) * 40, (), ()),)), ("step", (0,)))
        for _ in range(300):
            steps = drawn.Steps(draw, 1, sums=9).steps(40)
            self.assertEqual(drawn.size(steps), 40)
            self.assertIsNone(steps_error(1, steps))
            self.check_same(steps_error(1, steps + (LESS,)), ("many", ()))

    def test_six_nested_and_seven(self):
        self.assertIsNone(steps_error(1, nested(6, (LESS,))))
        found = steps_error(1, nested(7))
        self.assertEqual(found[0], "nest")
        self.assertEqual(len(found[1]), 13)
        # Too deep is told ahead of a wrong test or share, not ahead of a wrong form.
        for inner, word in ((("if", None, (), ()), "nest"), (("either", (0, 1), (), ()), "nest"), (("if", None, (), []), "step")):
            self.assertEqual(steps_error(1, nested(6, (inner,)))[0], word)
            self.assertNotEqual(steps_error(1, nested(5, (inner,)))[0], "nest")
        self.check_same(steps_error(1, nested(20))[0], "nest")

    def test_two_faults_at_once(self):
        self.check_same(steps_error(1, (("set", 1, 21),)), ("counter", (0,)))
        self.check_same(steps_error(1, (("throw", 1, None),)), ("counter", (0,)))
        self.check_same(steps_error(1, (("sum", 0, None, 1),)), ("counter", (0,)))
        self.check_same(steps_error(1, (("sum", 0, None, 0),)), ("die", (0,)))
        self.check_same(steps_error(1, (LESS, ("set", 0, 21), "less")), ("number", (1,)))
        self.check_same(steps_error(1, (("if", (0, "from", 1), (None,), (("less", 3),)), 5)), ("step", (0, 0, 0)))
        self.check_same(steps_error(1, (("if", (0, "from", 1), (), (("less", 3),)), 5)), ("counter", (0, 1, 0)))
        self.check_same(steps_error(1, (("if", (9, "from", 1), (), (("less", 3),)), 5)), ("test", (0,)))
        self.check_same(steps_error(1, (("either", (1, 2), (("seen", None),), (5,)), 5)), ("test", (0, 0, 0)))

    def test_values_of_all_kinds(self):
        for value in drawn.values():
            found = steps_error(2, value)
            if not isinstance(value, tuple):
                self.check_same(found, ("form", ()))
            elif value == ():
                self.assertIsNone(found)
            else:
                self.check_same(found, ("many", ()) if len(value) > 40 else ("step", (0,)))
            for place in (0, 1):
                steps = (LESS,) * place + (value,)
                self.check_same(steps_error(2, steps), ("step", (place,)))


class ProgramErrorTest(KindsCase):
    def test_form(self):
        for value in (None, (), (("x",),), (("x",), (), ()), [("x",), ()], "x: skip", {("x",): ()}, 0, True):
            self.check_same(program_error(value), "form")
        for value in drawn.values():
            self.check_same(program_error(value), "form") if not (isinstance(value, tuple) and len(value) == 2) else None

    def test_names_ahead_of_steps(self):
        for names in ((), ["x"], None, ("x", "if"), ("x", "x"), ("a", "b", "c", "d"), (1,), True):
            for steps in ((), None, (None,), (LESS,) * 41):
                self.check_same(program_error((names, steps)), ("names", names_error(names)))

    def test_two_items_of_all_kinds(self):
        for value in drawn.values():
            self.check_same(program_error((value, ())), ("names", names_error(value)) if value != ("x", "y") else None)
            error = steps_error(1, value)
            self.check_same(program_error((("x",), value)), None if error is None else ("steps", error))


class WaysTest(KindsCase):
    def drawn_programs(self, seed, many):
        draw = drawn.drawing(seed)
        found = [drawn.program(draw, draw.randint(1, 3), draw.randint(0, 40), tills=2, sums=4) for _ in range(many)]
        return found + [(("x",), ()), (("x",), nested(6, (LESS,))), (("x",), (LESS,) * 40)]

    def test_ways(self):
        for program in self.drawn_programs("ways", 400):
            found = ways(program)
            self.check_same(found, walked(program[1]))
            self.assertEqual(len(found), drawn.size(program[1]))
            self.assertEqual(len(set(found)), len(found))

    def test_step_at(self):
        for program in self.drawn_programs("step at", 200):
            for way in ways(program):
                step = program[1][way[0]]
                for side, place in zip(way[1::2], way[2::2]):
                    step = step[2 + side][place]
                self.check_same(step_at(program, way), step)

    def test_without(self):
        for program in self.drawn_programs("without", 70):
            before = copy.deepcopy(program)
            for way in ways(program):
                left = without(program, way)
                self.assertIsNone(program_error(left))
                self.assertEqual(left[0], program[0])
                self.assertEqual(drawn.size(left[1]), drawn.size(program[1]) - drawn.size((step_at(program, way),)))
                others = [step_at(program, other) for other in ways(program) if other[:len(way)] != way]
                kept = [step_at(left, other) for other in ways(left)]
                # The steps around the one that is left out are changed in their branches alone.
                self.assertEqual([step[0] for step in others], [step[0] for step in kept])
            self.assertEqual(program, before)

    def test_without_puts_the_others_in_its_place(self):
        inner = (("set", 0, 1), ("set", 0, 2), ("set", 0, 3))
        program = (("x",), (LESS, ("either", (1, 2), inner, (("if", (0, "below", 1), inner, inner),)), ("add", 0, 1)))
        for place in range(3):
            left = inner[:place] + inner[place + 1:]
            self.check_same(without(program, (1, 0, place)), (("x",), (LESS, ("either", (1, 2), left) + program[1][1][3:], ("add", 0, 1))))
            told = (("if", (0, "below", 1), inner, left),)
            self.check_same(without(program, (1, 1, 0, 1, place)), (("x",), (LESS, ("either", (1, 2), inner, told), ("add", 0, 1))))
        self.check_same(without(program, (0,)), (("x",), program[1][1:]))
        self.check_same(without(program, (1, 1, 0)), (("x",), (LESS, ("either", (1, 2), inner, ()), ("add", 0, 1))))

    def test_values_near_ways(self):
        program = (("x",), (LESS, ("if", (0, "from", 1), (LESS, LESS), (("either", (1, 2), (), (LESS,)),)), ("add", 0, 1)))
        wrong = [
            (), (3,), (-1,), (0, 0), (0, 0, 0), (1, 0), (1, 1), (1, 2, 0), (1, -1, 0), (1, 0, 2), (1, 0, -1), (1, 1, 1), (1, 1, 0, 0),
            (1, 1, 0, 0, 0), (1, 1, 0, 1, 1), (1, 1, 0, 1, 0, 0, 0), (1, 3, 0), (2, 0, 0), [0], [1, 0, 0], (True,), (False,), (1, False, 0),
            (1, 0, True), (True, 0, 0), ((0,),), ((1,), 0, 0), (None,), ("0",), "0", 0, 1, None, True, {0: 1}, (0.0,), (10 ** 399,),
            (1, 0, 10 ** 399), (1, (0, 0)), ([1], 0, 0),
        ]
        for value in wrong + drawn.values():
            for function in (step_at, without):
                with self.subTest(value=shown(value), function=function.__name__):
                    with self.assertRaises(Unfit) as caught:
                        function(program, value)
                    self.assertIs(type(caught.exception), Unfit)

    def test_each_way_one_place_on_shorter_or_longer(self):
        for program in self.drawn_programs("near", 30):
            right = set(ways(program))
            for way in ways(program):
                near = [way[:-1], way[:-2], way + (0,), way + (0, 0), way + (1, 0), list(way), way[:-1] + (way[-1] + 1,)]
                near += [way[:-1] + (bool(way[-1]),), tuple(map(str, way)), way[:-1] + (way[-1] - len(ways(program)) - 1,)]
                for value in near:
                    if isinstance(value, tuple) and value in right and not any(isinstance(item, bool) for item in value):
                        self.check_same(step_at(program, value), step_at(program, value))
                    else:
                        self.assertRaises(Unfit, step_at, program, value)
                        self.assertRaises(Unfit, without, program, value)


class PutBehindTest(KindsCase):
    def test_steps_stand_behind_one_another(self):
        draw = drawn.drawing("behind")
        for _ in range(500):
            many = draw.randint(1, 3)
            one = drawn.program(draw, many, draw.randint(0, 20), sums=3, tills=2)
            other = (("p", "q", "r")[:many], drawn.program(draw, many, draw.randint(0, 20), sums=3)[1])
            self.check_same(put_behind(one, other), (one[0], one[1] + other[1]))
            self.check_same(put_behind(other, one), (other[0], other[1] + one[1]))

    def test_three_in_both_orders(self):
        draw = drawn.drawing("three")
        for _ in range(300):
            many = draw.randint(1, 3)
            a, b, c = [drawn.program(draw, many, draw.randint(0, 13), sums=3) for _ in range(3)]
            self.check_same(put_behind(put_behind(a, b), c), put_behind(a, put_behind(b, c)))
            nothing = (("k", "l", "m")[:many], ())
            self.check_same(put_behind(a, nothing), a)
            self.check_same(put_behind(nothing, a), (nothing[0], a[1]))

    def test_unlike_many_counters(self):
        for one, other in itertools.permutations(((("x",), (LESS,)), (("x", "y"), ()), (("x", "y", "z"), (LESS,))), 2):
            with self.assertRaises(Unfit):
                put_behind(one, other)

    def test_forty_together_and_forty_one(self):
        for many in (0, 1, 20, 39, 40):
            one, other = (("x",), (LESS,) * many), (("x",), (("add", 0, 1),) * (40 - many))
            self.assertEqual(len(put_behind(one, other)[1]), 40)
            for longer in ((one, (("x",), other[1] + (LESS,))), ((("x",), other[1] + (LESS,)), one)):
                if len(longer[0][1]) > 40 or len(longer[1][1]) > 40:
                    continue
                with self.assertRaises(TooMany) as caught:
                    put_behind(*longer)
                self.check_same(caught.exception.limit, 40)
        inner = (("x",), (("if", (0, "from", 1), (LESS,) * 10, (LESS,) * 9),))
        self.assertEqual(drawn.size(put_behind(inner, inner)[1]), 40)
        self.assertRaises(TooMany, put_behind, inner, (("x",), inner[1] + (LESS,)))

    def test_unfit_ahead_of_too_many(self):
        self.assertRaises(Unfit, put_behind, (("x",), (LESS,) * 40), (("x", "y"), (LESS,) * 40))


if __name__ == "__main__":
    unittest.main()
