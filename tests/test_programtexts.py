"""[A3], [B4] and [B5]: the texts of programs and of steps."""

import copy
import inspect
import unittest

from everystart import programtexts
from everystart.errors import BadText
from everystart.programs import program_error
from everystart.programtexts import program_text, read_program, read_steps, steps_text
from tests import drawn
from tests.kinds import KindsCase, shown

GREAT = 10 ** 399
COIN = ("die", ((0, (1, 2)), (1, (1, 2))))
LESS = ("less", 0)

TOLD = {
    "x := 0": ("set", 0, 0), "x := 20": ("set", 0, 20), "x += 1": ("add", 0, 1), "y += 20": ("add", 1, 20), "y -= 1": ("less", 1),
    "x += die 1 7": ("throw", 0, ("die", ((7, (1, 1)),))), "y += die 1/2 0, 1/2 1": ("throw", 1, COIN),
    "x += till 1/3": ("throw", 0, ("till", (1, 3))), "x += till 1/3 by x": ("sum", 0, ("till", (1, 3)), 0),
    "y += die 1/2 0, 1/2 1 by x": ("sum", 1, COIN, 0), "x += die 1 0 by y": ("sum", 0, ("die", ((0, (1, 1)),)), 1),
    "seen x < 1": ("seen", (0, "below", 1)), "seen y >= 4": ("seen", (1, "from", 4)),
    "if x < 2 {skip} else {skip}": ("if", (0, "below", 2), (), ()),
    "if y >= 1 {x -= 1; y -= 1} else {x += 1}": ("if", (1, "from", 1), (LESS, ("less", 1)), (("add", 0, 1),)),
    "either 1/4 {skip} or {x -= 1}": ("either", (1, 4), (), (LESS,)),
    "either 3/4 {either 1/2 {x := 1} or {skip}} or {skip}": ("either", (3, 4), (("either", (1, 2), (("set", 0, 1),), ()),), ()),
}


class CallsTest(KindsCase):
    CALLS = {
        "program_text": (["program"], [(("a", "b"), (("less", 1),))], "a, b: b -= 1"),
        "read_program": (["value"], ["a, b: b -= 1"], (("a", "b"), (("less", 1),))),
        "steps_text": (["names", "steps"], [("a", "b"), (("less", 1),)], "b -= 1"),
        "read_steps": (["names", "value"], [("a", "b"), "b -= 1"], (("less", 1),)),
    }

    def test_by_place_and_by_name_twice(self):
        for name, (names, arguments, told) in self.CALLS.items():
            function = getattr(programtexts, name)
            self.assertEqual(function.__module__, "everystart.programtexts")
            self.assertEqual(list(inspect.signature(function).parameters), names)
            for _ in range(2):
                self.check_same(function(*arguments), told)
                self.check_same(function(**dict(zip(reversed(names), reversed(arguments)))), told)

    def test_values_of_all_kinds_are_refused_and_stay_as_they_were(self):
        for value in drawn.values() + [["x: skip"], ("x: skip",), {"x: skip": 1}, b"x: skip", (("x",), ())]:
            before = copy.deepcopy(value)
            for _ in range(2):
                with self.assertRaises(BadText) as caught:
                    read_program(value)
                self.assertEqual(vars(caught.exception), {})
                self.assertRaises(BadText, read_program, value=value)
                self.assertRaises(BadText, read_steps, ("x", "y"), value)
                self.assertRaises(BadText, read_steps, value=value, names=("n",))
            if not isinstance(value, ValueError):
                self.assertEqual(value, before)


class TextsTest(KindsCase):
    def test_each_step(self):
        names = ("x", "y")
        for text, step in TOLD.items():
            self.check_same(steps_text(names, (step,)), text)
            self.check_same(read_steps(names, text), (step,))
            self.check_same(program_text((names, (step, LESS))), "x, y: " + text + "; x -= 1")
            self.check_same(read_program("x, y: x -= 1; " + text), (names, (LESS, step)))

    def test_names(self):
        for names in (("n",), ("skipper", "seenx"), ("ifx", "tills", "dies"), ("abcdefgh", "ab", "a"), ("a", "b", "c")):
            steps = tuple(("set", counter, 3) for counter in range(len(names)))
            text = ", ".join(names) + ": " + "; ".join(name + " := 3" for name in names)
            self.check_same(program_text((names, steps)), text)
            self.check_same(read_program(text), (names, steps))
            self.check_same(read_program(", ".join(names) + ": skip"), (names, ()))

    def test_each_program_comes_back_from_its_text(self):
        draw = drawn.drawing("texts")
        texts = {}
        for _ in range(1500):
            program = drawn.program(draw, draw.randint(1, 3), draw.choice((0, 1, 2, 3, 5, 8, 20, 40)), tills=3, sums=4)
            names, steps = program
            text = program_text(program)
            self.check_same(read_program(text), program)
            self.check_same(steps_text(names, steps), text[len(", ".join(names)) + 2:])
            self.check_same(read_steps(names, steps_text(names, steps)), steps)
            self.assertEqual(texts.setdefault(text, program), program)

    def test_fractions_of_400_figures(self):
        names = ("x",)
        share, more = (GREAT, 10 ** 400 - 1), (GREAT, 10 ** 400 + 1)
        for of in (lambda share: ("throw", 0, ("till", share)), lambda share: ("either", share, (), (LESS,)),
                   lambda share: ("sum", 0, ("die", ((0, share), (3, (share[1] - share[0], share[1])))), 0)):
            self.check_same(read_steps(names, steps_text(names, (of(share),))), (of(share),))
            self.assertIsNone(program_error((names, (of(more),))))
            self.assertRaises(BadText, read_steps, names, steps_text(names, (of(more),)))
            self.assertRaises(BadText, read_program, program_text((names, (of(more),))))
        self.assertRaises(BadText, read_program, "x: x := " + "1" * 401)
        self.assertRaises(BadText, read_program, "x: x := " + "1" * 5000)
        self.assertRaises(BadText, read_program, "x: x := " + "0" * 15000 + "1")

    def test_forty_steps_and_six_nested(self):
        self.assertEqual(read_program("x: " + "; ".join(["x -= 1"] * 40)), (("x",), (LESS,) * 40))
        self.assertRaises(BadText, read_program, "x: " + "; ".join(["x -= 1"] * 41))
        self.assertRaises(BadText, read_steps, ("x",), "; ".join(["x -= 1"] * 2500))
        for deep in range(1, 7):
            text, steps = "skip", ()
            for _ in range(deep):
                text, steps = "either 1/2 {" + text + "} or {skip}", (("either", (1, 2), steps, ()),)
            self.check_same(read_program("x: " + text), (("x",), steps))
            self.check_same(steps_text(("x",), steps), text)
        self.assertRaises(BadText, read_program, "x: if x < 1 {skip} else {" + text + "}")

    def test_nested_hundreds_deep(self):
        for deep in (7, 8, 60, 300, 900):
            for ahead, behind in (("either 1/2 {", "} or {skip}"), ("if x < 1 {skip} else {", "}"), ("{", "}")):
                text = (ahead * deep + "skip" + behind * deep)[:20000]
                self.assertRaises(BadText, read_program, "x: " + text)
                self.assertRaises(BadText, read_steps, ("x",), text)
                self.assertRaises(BadText, read_steps, ("x",), (ahead * deep)[:20000])


class BadTextTest(KindsCase):
    def check_bad(self, texts):
        for text in texts:
            with self.subTest(text=shown(text)):
                self.assertRaises(BadText, read_steps, ("x", "y"), text)
                self.assertRaises(BadText, read_program, "x, y: " + text)

    def test_names(self):
        for text in ("", "x", "x:", "x: ", ":", ": skip", " x: skip", "x : skip", "x:skip", "x:  skip", "x,y: skip", "x , y: skip",
                     "x,  y: skip", "x, : skip", ", x: skip", "x, x: skip", "x, y, x: skip", "a, b, c, d: skip", "if: skip",
                     "x, skip: skip", "X: skip", "x1: skip", "abcdefghi: skip", "x; y: skip", "x, y,: skip", "x\n: skip", "x: skip\n",
                     "skip", "x: x: skip", "\u00e4: skip", "x:\nskip", "x.: skip", "1: skip", "x y: skip"):
            with self.subTest(text=text):
                self.assertRaises(BadText, read_program, text)

    def test_skip_stands_alone(self):
        self.check_bad(["", " ", "skip ", " skip", "skip;", "skip; skip", "x -= 1; skip", "skip; x -= 1", "x -= 1; skip; x -= 1", "Skip", "skipskip",
                        "if x < 1 {skip; skip} else {skip}", "if x < 1 {} else {skip}", "if x < 1 {skip} else {}", "skip}", "{skip}", "skips"])

    def test_numbers(self):
        self.check_bad(["x := " + number for number in ("21", "-1", "00", "01", "020", "", "x", "1/2", "2/1", "+1", " 1", "1 ", "1.0", "1_0", "9" * 400,
                                                        "-0", "0x1", "\u0661", "\u00b2", "ten", "1,", "1;", "1; ")])
        self.check_bad(["x += " + number for number in ("0", "21", "-1", "01", "", "1/2", "x", "1 by x", " 1", "2 ", "+2", "9" * 500)])
        self.check_bad(["x -= " + number for number in ("2", "0", "", "11", "01", "-1", "1 ", " 1", "x", "1/1", "1 by x")])

    def test_tests(self):
        self.check_bad(["seen " + test for test in ("", "x", "x < 0", "x < 5", "x >= 0", "x >= 5", "x < -1", "x < 01", "x > 1", "x <= 1", "x = 1", "x == 1",
                                                    "x != 1", "x <1", "x< 1", "x<1", "x  < 1", "x <  1", "x >=1", "x>= 1", "z < 1", "X < 1", "1 < x", "x < y",
                                                    "x < 1/2", "x < 1 ", "(x < 1)", "not x < 1", "x < 1, y < 1", "seen x < 1", "if < 1", "x < 1 by y")])

    def test_dice(self):
        self.check_bad(["x += " + die for die in (
            "die", "die ", "die 1", "die 1 ", "die 0 1", "die 1 10", "die 1 -1", "die 1 01", "die 1/2 0", "die 1/2 0, 1/2 0", "die 1/2 1, 1/2 0",
            "die 1/2 0,1/2 1", "die 1/2 0 , 1/2 1", "die 1/2 0,  1/2 1", "die 1/2 0, 1/2 1,", "die 1/2 0, 1/2 1, ", "die 1/2 0 1/2 1", "die 1/2 0; 1/2 1",
            "die 2/4 0, 1/2 1", "die 1/2 0, 2/4 1", "die 2/2 0", "die 1/1 0", "die 1/2 0, 1/3 1", "die 1/2 0, -1/2 1, 1 2", "die 0 0, 1 1", "die  1 0",
            "die 1  0", "die 1 0 ", "die 1 x", "die x 1", "dice 1 0", "die1 0", "die: 1 0", "Die 1 0", "die 0 1/2, 1 1/2", "die 0.5 0, 0.5 1", "die 1 0/1",
            "die 1/6 0, 1/6 1, 1/6 2, 1/6 3, 1/6 4, 1/12 5, 1/12 6", "till", "till ", "till 0", "till 1", "till 2", "till -1/2", "till 3/2", "till 2/4", "till 1/2 ",
            "till  1/2", "till 1/2 0", "till 1/2, 1/2", "till 0/1", "till 1/1", "till 1/", "till /2", "till 1//2", "till 1/2/3", "till x", "tills 1/2", "Till 1/2",
            "till 1/2 by", "till 1/2 by ", "till 1/2 by z", "till 1/2 by 1", "till 1/2  by x", "till 1/2 by  x", "till 1/2by x", "till 1/2 byx", "till 1/2 by x ",
            "till 1/2 by x by x", "till 1/2 by x, y", "till 1/2 by die", "die 1 0 by", "die 1 0 by z", "by x", "x", "y", "1/2", "throw",
        )])

    def test_steps(self):
        self.check_bad([
            "x", "x ", "x :=", "x :=1", "x:= 1", "x:=1", "x = 1", "x =: 1", "x  := 1", "x :=  1", "x +=1", "x+= 1", "x =+ 1", "x + = 1", "x ++", "x -=1",
            "x-= 1", "x --", "x *= 2", "z := 1", "z -= 1", "X := 1", "xx := 1", "1 := 1", ":= 1", "x := 1;", "x := 1; ", "x := 1;y := 1", "x := 1 ; y := 1",
            "x := 1;  y := 1", "x := 1, y := 1", "x := 1 y := 1", "; x := 1", "x := 1;; y := 1", "x := 1; ; y := 1", "x := 1\n", "\nx := 1", "x := 1;\ny := 1",
            "do x", "do", "while x < 1 {skip}", "loop", "program", "x := 1}", "{x := 1}", "(x := 1)", "x, y := 1", "if := 1", "seen := 1", "seen  x < 1", "seenx < 1",
            "skip := 1", "or", "else", "x.y := 1", "x := 1.", "x\t:= 1",
        ])

    def test_branches(self):
        self.check_bad([
            "if", "if ", "if x", "if x < 1", "if x < 1 ", "if x < 1 {", "if x < 1 {skip", "if x < 1 {skip}", "if x < 1 {skip} else", "if x < 1 {skip} else {",
            "if x < 1 {skip} else {skip", "if x < 1 {skip} else {skip}}", "if x < 1 {skip}} else {skip}", "if x < 1 {{skip} else {skip}", "if x < 1 {skip} or {skip}",
            "if x < 1 {skip}else {skip}", "if x < 1 {skip} else{skip}", "if x < 1{skip} else {skip}", "if x < 1 { skip} else {skip}", "if x < 1 {skip } else {skip}",
            "if x < 1  {skip} else {skip}", "if  x < 1 {skip} else {skip}", "ifx < 1 {skip} else {skip}", "if x < 5 {skip} else {skip}", "if x < 0 {skip} else {skip}",
            "if 1/2 {skip} else {skip}", "if x < 1 {skip} else {skip} ", "if x < 1 {skip} else {skip};", "if x < 1 {skip} else {skip} else {skip}", "if x < 1 (skip) else (skip)",
            "if x < 1 {skip} else {x := 21}", "if x < 1 {z -= 1} else {skip}", "if x < 1 {skip} Else {skip}", "if x < 1 then {skip} else {skip}", "if (x < 1) {skip} else {skip}",
            "either", "either 1/2", "either 1/2 {skip}", "either 1/2 {skip} else {skip}", "either 0 {skip} or {skip}", "either 1 {skip} or {skip}", "either 2/4 {skip} or {skip}",
            "either -1/2 {skip} or {skip}", "either 3/2 {skip} or {skip}", "either 1/2{skip} or {skip}", "either  1/2 {skip} or {skip}", "either 1/2 {skip} or{skip}",
            "either 1/2 {skip}or {skip}", "either 1/2 {skip} or {skip", "either 1/2 skip or skip", "either x < 1 {skip} or {skip}", "either {skip} or {skip}",
            "either 1/2 {skip} or {skip} or {skip}", "either 1/2 {skip} or {skip}}", "Either 1/2 {skip} or {skip}", "either 1/2 {skip} {skip}", "either 1/0 {skip} or {skip}",
        ])

    def test_texts_with_a_sign_moved(self):
        """Whatever is done to a text: it is refused, or it is the text of what was read."""
        draw = drawn.drawing("signs")
        refused = 0
        for _ in range(4000):
            program = drawn.program(draw, draw.randint(1, 3), draw.randint(0, 6), tills=2, sums=2)
            text = program_text(program)
            place = draw.randrange(len(text))
            behind = draw.choice((text[place + 1:], draw.choice("xy01289 {};,:/-+=<>\n") + text[place + 1:], text[place] * 2 + text[place + 1:],
                                  draw.choice("xy01289 {};,:/-+=<>") + text[place:], text[place + 2:] + text[place:place + 1]))
            other = text[:place] + behind
            try:
                read = read_program(other)
            except BadText:
                refused += 1
            else:
                self.assertIsNone(program_error(read))
                self.assertEqual(program_text(read), other)
        self.assertGreater(refused, 2000)

    def test_very_long_texts(self):
        for text in ("x" * 20000, "x, " * 6000, "x: " + "x" * 19000, "x: x := " + "1" * 19000, "x: x += die " + "1/2 0, " * 2500, "x: x += till " + "1/" * 9000,
                     "x: " + "skip; " * 3000, "{" * 20000, "}" * 20000, "x: " + "if " * 6000, "x: " + "seen x < 1; " * 1500, " " * 20000, "\n" * 20000,
                     "x: x += till " + "1" * 400 + "/" + "1" * 19000):
            self.assertRaises(BadText, read_program, text)
            self.assertRaises(BadText, read_steps, ("x",), text)


if __name__ == "__main__":
    unittest.main()
