"""[A3], [K5] and [K6]: shells and the lines that are said to them."""

import inspect
import unittest

from everystart.books import faults
from everystart.booktexts import book_text, read_book
from everystart.desks import Desk, desk_behind
from everystart.errors import BadText, ThrowError
from everystart.fractions import fraction_text
from everystart.programtexts import program_text, read_program, read_steps, steps_text
from everystart.shells import Shell
from tests import drawn
from tests.kinds import KindsCase

COIN = "x += die 1/2 0, 1/2 1"
RIGHT = "x, y:\nprogram flip {y += die 1/2 0, 1/2 1}\nloop pour while x >= 1 {x -= 1; do flip} as {y += die 1/2 0, 1/2 1 by x; x := 0} by 1, 0"
LESS = "\nloop less while x >= 1 {x -= 1; do flip} as {x := 0} by 1, 0"
SLACK = "\nloop slack while x >= 1 {x -= 1; do flip} as {y += die 1/2 0, 1/2 1 by x; x := 0} by 0, 0"
WORDS = ("program", "undo", "redo", "lean", "put 0 x -= 1", "drop 0", "swap 0", "share 0,0 0,0", "known 0 1", "left 0", "mean 0 x", "alike x: skip", "alike ", "parting 0", "put 0 ", "put 999 what", "mean 0,0,0,9999 abc")


class ShellCase(KindsCase):
    def said(self, *lines):
        """Return a shell to which lines were said."""
        shell = Shell()
        for line in lines:
            self.assertNotIn(shell.say(line).split(" ")[0], ("what", "error", "no"))
        return shell

    def seen(self, shell):
        """Return what can be seen of a shell's desk, without changing it."""
        told = [shell.say("program")] + [shell.say("parting " + str(number)) for number in range(5)]
        back = []
        while shell.say("undo") != "error NothingToUndo" and told[0] != "no desk":
            back.append(shell.say("program"))
        for _ in back:
            shell.say("redo")
        return told, back

    def check(self, rows, *ahead):
        """Check the answer to each line, behind the lines ahead, each by itself; what tells an error changes nothing."""
        for line, told in rows:
            with self.subTest(line=str(line)[:80]):
                shell = self.said(*ahead)
                before = self.seen(shell)
                self.check_same(shell.say(line), told)
                if told.split(" ")[0] in ("error", "what", "no"):
                    self.check_same(self.seen(shell), before)
                again = self.said(*ahead)
                self.check_same(again.say(line=line), told)


class InterfaceTest(ShellCase):
    def test_say(self):
        self.assertEqual(Shell.__module__, "everystart.shells")
        self.assertIn("say", vars(Shell))
        self.assertEqual(list(inspect.signature(Shell).parameters), [])
        self.assertEqual(list(inspect.signature(Shell.say).parameters)[1:], ["line"])

    def test_what_is_no_string(self):
        for shell in (Shell(), self.said("new x")):
            for value in drawn.values() + [b"program", ["program"], ("program",), Desk(("x",)), shell]:
                if not isinstance(value, str):
                    self.check_same(shell.say(value), "what")
                    self.check_same(shell.say(line=value), "what")

    def test_strings_of_all_kinds(self):
        for value in drawn.values():
            if isinstance(value, str):
                for shell, alike in ((Shell(), "no desk"), (self.said("new x"), "error BadText")):
                    self.check_same(shell.say(value), "what")
                    self.check_same(shell.say("alike " + value), alike)
                    self.check_same(shell.say("judge " + value), "error BadText")
                    self.check_same(shell.say("new " + value), "version 0" if value in ("x", "form") else "error BadText")


class NoDeskTest(ShellCase):
    def test_without_a_desk(self):
        self.check([(line, "no desk") for line in WORDS])

    def test_lines_of_no_form_without_a_desk(self):
        lines = ("", " ", "new", "judge", "put", "put 0", "drop", "drop 1000", "swap 01", "undo ", "share 0", "share 0 0 0", "left", "mean 0 X", "mean 0 do", "alike", "parting x", "lean 0", "Program", "known 0, 0 0")
        self.check([(line, "what") for line in lines])

    def test_new_and_judge_without_a_desk(self):
        self.check([("new x", "version 0"), ("new 1", "error BadText"), ("judge " + RIGHT, "right"), ("judge x", "error BadText"), ("judge n:", "right")])


class FormTest(ShellCase):
    """Each form of line, with a desk, and lines that are nearly of one."""

    AHEAD = ("new x, y", "put 0 " + COIN, "put 1 y += die 1/2 0, 1/2 1 by x")

    def test_right_lines(self):
        self.check([
            ("new x", "version 0"), ("new a, bc, def", "version 0"), ("put 0 x := 3", "version 3"), ("put 2 seen x < 1", "version 3"), ("put 1 if x < 1 {skip} else {y -= 1; y += 2}", "version 3"), ("drop 0", "version 3"), ("drop 1", "version 3"),
            ("swap 0", "version 3"), ("undo", "version 1"), ("program", "x, y: x += die 1/2 0, 1/2 1; y += die 1/2 0, 1/2 1 by x"), ("share 0,0 1,1", "1/4"), ("share 20,20 20,20", "1/2097152"), ("share 0,0 9,9", "0"), ("known 0,0 0,0", "1/2"),
            ("left 0,0", "1"), ("mean 2,1 y", "9/4"), ("mean 2,1 x", "5/2"), ("alike a, b: skip", "parted 0,0 0,0"), ("alike x, y: x += die 1/2 0, 1/2 1; y += die 1/2 0, 1/2 1 by x", "alike"), ("parting 2", "alike"), ("parting 1", "parted 0,0 1,0"),
            ("parting 0", "parted 0,0 0,0"), ("lean", "x, y: x += die 1/2 0, 1/2 1; y += die 1/2 0, 1/2 1 by x"), ("judge " + RIGHT, "right"),
        ], *self.AHEAD)

    def test_errors(self):
        self.check([
            ("new ", "error BadText"), ("new x,y", "error BadText"), ("new x, x", "error BadText"), ("new x: skip", "error BadText"), ("new x, y, z, a", "error BadText"), ("new do", "error BadText"), ("new  x", "error BadText"), ("new x ", "error BadText"),
            ("put 0 ", "error BadText"), ("put 0 skip", "error BadText"), ("put 9 skip", "error BadText"), ("put 0 x -= 1; x -= 1", "error BadText"), ("put 0 z := 1", "error BadText"), ("put 0  x := 1", "error BadText"), ("put 9 z := 1", "error BadText"),
            ("put 0 x := 21", "error BadText"), ("put 3 x := 1", "error Unfit"), ("put 999 x := 1", "error Unfit"), ("drop 2", "error Unfit"), ("swap 1", "error Unfit"), ("redo", "error NothingToRedo"),
            ("share 0 1,1", "error Unfit"), ("share 0,0 1", "error Unfit"), ("share 0,0,0 1,1", "error Unfit"), ("share 21,0 1,1", "error Unfit"), ("share 0,0 61,1", "error Unfit"), ("share 9999,0 0,0", "error Unfit"), ("known 0 0", "error Unfit"), ("left 0", "error Unfit"),
            ("left 0,21", "error Unfit"), ("mean 0,0 z", "error Unfit"), ("mean 0 x", "error Unfit"), ("mean 0 z", "error Unfit"), ("mean 21,0 x", "error Unfit"), ("alike ", "error BadText"), ("alike x, y", "error BadText"), ("alike x: skip", "error Unfit"),
            ("alike x, y: skip ", "error BadText"), ("parting 3", "error NoVersion"), ("parting 999", "error NoVersion"), ("judge ", "error BadText"), ("judge x, y: skip", "error BadText"), ("judge " + RIGHT + "\n", "error BadText"),
        ], *self.AHEAD)
        self.check([("undo", "error NothingToUndo"), ("drop 0", "error Unfit"), ("swap 0", "error Unfit"), ("parting 0", "alike"), ("program", "x: skip"), ("lean", "x: skip")], "new x")
        self.check([("known 1 1", "error Never"), ("mean 1 x", "error Never"), ("share 1 1", "0"), ("left 1", "0"), ("mean 0 x", "0")], "new x", "put 0 seen x < 1")

    def test_lines_of_no_form(self):
        lines = [
            "", " ", "what", "new", "New x", "NEW x", "newx", " new x", "put", "put ", "put 0", "put x x := 1", "put -1 x := 1", "put +1 x := 1", "put 00 x := 1", "put 01 x := 1", "put 1000 x := 1", "put  0 x := 1", "put 0.0 x := 1", " put 0 x := 1",
            "drop", "drop ", "drop x", "drop 03", "drop 00", "drop 1000", "drop -0", "drop 0 ", "drop  0", " drop 0", "drop 0 0", "swap", "swap 0 1", "swap 0,1", "swap 0\n", "undo ", "undo 1", " undo", "undo\n", "redo ", "redo 0", "Undo", "program ", "program x", "programs",
            "share", "share 0,0", "share 0,0 ", "share 0,0  1,1", "share 0, 0 1,1", "share 0,0 1,1 ", "share 0,0 1,1 1,1", "share 00,0 1,1", "share 0,0 01,1", "share 0,0 12345,1", "share -1,0 1,1", "share x,y 1,1", "share ,0 1,1", "share 0, 1,1", "share 0;0 1,1", "share (0,0) (1,1)",
            "known 0,0", "known 0,0,1,1", "left", "left ", "left 0,0 ", "left 0,0 0,0", "left 0,,0", "left 0.0", "mean 0,0", "mean 0,0 ", "mean 0,0 X", "mean 0,0 x ", "mean 0,0 x y", "mean x 0,0", "mean 0,0 do", "mean 0,0 0", "mean 0,0 abcdefghi", "mean 0,0 skip",
            "alike", "Alike x: skip", "parting", "parting 0 1", "parting x", "parting 0001", "lean ", "lean 0", "judge", "Judge n:", "say program", "drop \u0663", "share 0,\u0661 0,0", "put \u00b2 x := 1",
        ]
        self.check([(line, "what") for line in lines], *self.AHEAD)

    def test_numbers_to_999_and_of_four_figures(self):
        self.check([("drop 999", "error Unfit"), ("drop 1000", "what"), ("drop 0999", "what"), ("left 9999,9999", "error Unfit"), ("left 10000,0", "what"), ("left 0" + ",0" * 300, "error Unfit"), ("parting 10", "error NoVersion"), ("parting 010", "what")], *self.AHEAD)

    def test_texts_of_any_length(self):
        self.check([("put 0 " + "x" * 19000, "error BadText"), ("alike " + "{" * 19000, "error BadText"), ("judge " + "n:\n" * 6000, "error BadText"), ("new " + "if " * 6000, "error BadText"), ("put 0 " + "if x < 1 {" * 900, "error BadText")], *self.AHEAD)

    def test_a_text_of_line_feeds_and_any_signs(self):
        self.check([("put 0 x := 1\n", "error BadText"), ("alike \n", "error BadText"), ("new x\n", "error BadText"), ("judge \n", "error BadText"), ("put 0 \u20ac", "error BadText")], *self.AHEAD)


class ErrorsOfLongDesksTest(ShellCase):
    def test_too_many_steps_and_edits(self):
        shell = self.said("new x")
        nested = "either 1/2 {" + "; ".join(["x -= 1"] * 38) + "} or {skip}"
        self.check_same([shell.say("put 0 " + nested), shell.say("put 1 x -= 1"), shell.say("put 1 x -= 1"), shell.say("program")[-6:]], ["version 1", "version 2", "error TooMany", "x -= 1"])
        for number in range(3, 41):
            self.check_same(shell.say("swap 0"), "version " + str(number))
        self.check_same([shell.say(line) for line in ("swap 0", "drop 0", "put 0 x -= 1", "swap 9")], ["error TooManyEdits", "error TooManyEdits", "error TooMany", "error Unfit"])
        self.check_same([shell.say("undo"), shell.say("parting 39"), shell.say("parting 40")], ["version 39", "alike", "error NoVersion"])

    def test_too_many_ends_and_too_much(self):
        double, twin = "x += die 1/2 0, 1/2 1 by x", "y += die 1/2 0, 1/2 1 by y"
        shell = self.said("new x, y", "put 0 " + double, "put 1 " + twin, "put 2 " + double, "put 3 " + twin)
        self.check_same([shell.say(line) for line in ("share 20,20 0,0", "left 20,20", "known 20,20 0,0", "mean 20,20 x", "left 1,1")], ["error TooMany"] * 4 + ["1"])
        tenfold = ["put 0 x += die 1 9 by x"] * 9
        shell = self.said("new x", *tenfold)
        self.check_same([shell.say(line) for line in ("alike x: skip", "parting 0", "lean", "parting 9", "mean 1 x")], ["error TooMany"] * 3 + ["alike", "1000000000"])
        heavy = "x:\nloop a while x >= 1 {" + "; ".join(["x += die 1 9 by x"] * 9) + "} as {x := 0; x -= 1} by 1"
        self.check_same(shell.say("judge " + heavy), "error TooMany")
        self.check_same(shell.say("judge n:\nprogram a {" + "; ".join(["n -= 1"] * 40) + "}\nprogram b {do a}"), "error TooMany")


class GreatTest(ShellCase):
    """Numbers of four hundred figures are told, greater ones are "great"."""

    def test_great_shares(self):
        nines = "9" * 200
        shell = self.said("new x", "put 0 x += die 1/" + nines + " 0, " + "9" * 199 + "8/" + nines + " 1")
        self.check_same(shell.say("share 0 0"), "1/" + nines)
        shell.say("put 0 " + "x += till 1/" + nines)
        self.check_same(shell.say("share 0 0"), "1/" + str(int(nines) ** 2))
        self.check_same(len(str(int(nines) ** 2)), 400)
        shell.say("put 0 either 1/2 {skip} or {x += 1}")
        self.check_same([shell.say("share 0 0"), shell.say("known 0 0")], ["1/" + str(2 * int(nines) ** 2)] * 2 if len(str(2 * int(nines) ** 2)) <= 400 else ["great"] * 2)
        self.check_same(shell.say("left 0"), "1")

    def test_just_400_figures_and_one_more(self):
        for below, told in ((10 ** 399, None), (10 ** 400 - 1, None), (10 ** 400 // 2 - 1, None)):
            shell = self.said("new x", "put 0 x += till 1/" + str(below))
            self.check_same([shell.say("share 0 0"), shell.say("mean 0 x")], ["1/" + str(below), str(below - 1)])
        rare = "put 0 either 1/" + str(10 ** 200) + " {x += 1} or {seen x >= 1}"
        self.check_same(self.said("new x", rare, rare).say("share 0 2"), "great")
        self.check_same(self.said("new x", rare, "put 0 either 1/" + str(10 ** 199) + " {x += 1} or {seen x >= 1}").say("share 0 2"), "1/" + str(10 ** 399))
        shell = self.said("new x", "put 0 x += till 1/" + str(10 ** 400 - 1), "put 0 x += 1")
        self.check_same(shell.say("mean 0 x"), str(10 ** 400 - 1))
        shell.say("put 0 x += 1")
        self.check_same([shell.say("mean 0 x"), shell.say("share 0 2"), shell.say("share 0 3")], ["great", "1/" + str(10 ** 400 - 1), "great"])


class JudgeTest(ShellCase):
    def test_by_hand(self):
        self.check([
            ("judge " + RIGHT, "right"), ("judge " + RIGHT + LESS, "less other"), ("judge " + RIGHT + SLACK, "slack at most"), ("judge " + RIGHT + LESS + SLACK, "less other; slack at most"), ("judge " + RIGHT + SLACK + LESS, "slack at most; less other"),
            ("judge n:\nloop a while n >= 1 {n += 1} as {skip} by 1", "a unsure"), ("judge n:\nloop a while n >= 1 {do a} as {skip} by 1", "error BadText"), ("judge  n:", "error BadText"), ("judge n: ", "error BadText"),
        ])

    def test_drawn_books(self):
        draw = drawn.drawing("judged")
        for _ in range(150):
            book = drawn.book(draw, draw.choice((1, 2)), draw.randint(0, 4), 2, often=0.3, most_number=3, most_test=2, most_side=2, most_sides=2, sums=0)
            try:
                told = "; ".join(name + " " + word for name, word, _ in faults(book)) or "right"
            except ThrowError as error:
                told = "error " + type(error).__name__
            shell = Shell() if draw.random() < 0.5 else self.said("new x", "put 0 x += 1")
            before = self.seen(shell)
            self.check_same(shell.say("judge " + book_text(book)), told)
            self.check_same(self.seen(shell), before)
            self.check_same(read_book(book_text(book)), book)


class DrawnTest(ShellCase):
    """Rows of lines, held against a desk of the tests' own."""

    def line(self, draw, names, desk):
        many, word = len(names), draw.choice(("put", "put", "put", "drop", "swap", "undo", "redo", "program", "share", "known", "left", "mean", "alike", "parting", "lean"))
        stands = [",".join(str(draw.randint(0, 4)) for _ in range(many if draw.random() < 0.95 else many + 1)) for _ in range(2)]
        if word == "put":
            step = drawn.Steps(draw, many, tills=1, most_number=4, most_side=3, most_sides=2).steps(draw.choice((1, 2)))
            return word, "put {} {}".format(draw.randint(0, len(desk.steps)), steps_text(names, step))
        if word in ("drop", "swap", "parting"):
            return word, "{} {}".format(word, draw.randint(0, 4))
        if word in ("share", "known"):
            return word, " ".join([word] + stands)
        if word in ("left", "mean"):
            return word, " ".join([word, stands[0]] + ([draw.choice(names + ("z",))] if word == "mean" else []))
        if word == "alike":
            return word, "alike " + program_text(drawn.program(draw, many if draw.random() < 0.9 else 1, 2, most_number=2, most_side=2))
        return word, word

    def told(self, desk, word, line):
        """Return what is to be answered, by the desk itself."""
        _, _, rest = line.partition(" ")
        stands = lambda text: tuple(map(int, text.split(",")))
        try:
            if word == "put":
                place, _, text = rest.partition(" ")
                steps = read_steps(desk.names, text)
                if len(steps) != 1:
                    raise BadText()
                return "version {}".format(desk.put(int(place), steps[0]))
            if word in ("drop", "swap"):
                return "version {}".format(getattr(desk, word)(int(rest)))
            if word in ("undo", "redo"):
                return "version {}".format(getattr(desk, word)())
            if word in ("program", "lean"):
                return program_text(desk.program if word == "program" else desk.lean())
            if word in ("share", "known", "left"):
                return fraction_text(getattr(desk, word)(*map(stands, rest.split(" "))))
            if word == "mean":
                start, name = rest.split(" ")
                return fraction_text(desk.mean(stands(start), desk.names.index(name) if name in desk.names else -1))
            parting = desk.alike(read_program(rest)) if word == "alike" else desk.parting(int(rest))
            return "alike" if parting is None else "parted " + " ".join(",".join(map(str, stand)) for stand in parting)
        except ThrowError as error:
            return "error " + type(error).__name__

    def test_two_shells_by_turns(self):
        draw = drawn.drawing("shells")
        for _ in range(60):
            shells, own = [Shell(), Shell()], []
            for shell in shells:
                names = drawn.NAMES[:draw.randint(1, 3)]
                self.check_same(shell.say("new " + ", ".join(names)), "version 0")
                own.append(Desk(names))
            for _ in range(24):
                place = draw.randrange(2)
                if draw.random() < 0.03:
                    names = drawn.NAMES[:draw.randint(1, 3)]
                    own[place] = Desk(names)
                    self.check_same(shells[place].say("new " + ", ".join(names)), "version 0")
                word, line = self.line(draw, own[place].names, own[place])
                self.check_same(shells[place].say(line), self.told(own[place], word, line))
                self.check_same(shells[place].say("program"), program_text(own[place].program))

    def test_the_same_lines_are_answered_alike(self):
        draw = drawn.drawing("same lines")
        for _ in range(30):
            one, other, desk = Shell(), Shell(), Desk(("x", "y"))
            lines = ["new x, y"]
            for _ in range(12):
                word, line = self.line(draw, desk.names, desk)
                self.told(desk, word, line)
                lines.append(line)
            self.check_same([one.say(line) for line in lines], [other.say(line) for line in lines])
            self.assertTrue(desk_behind(("x", "y"), desk.log) == desk)


if __name__ == "__main__":
    unittest.main()
