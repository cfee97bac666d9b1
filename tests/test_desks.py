"""[A3], [K1] to [K4] and [K6]: desks, their edits, and what they tell."""

import copy
import inspect
import unittest

from everystart import desks
from everystart.alikeness import alike
from everystart.desks import Desk, desk_behind
from everystart.errors import (
    BadLog, BadProgram, Never, NothingToRedo, NothingToUndo, NoVersion, ThrowError, TooMany, TooManyEdits, Unfit,
)
from everystart.figures import known_share, mean_of
from everystart.leaning import lean
from everystart.programs import program_error
from everystart.runs import left_of, share_of
from tests import drawn
from tests.kinds import KindsCase, same

COIN = ("die", ((0, (1, 2)), (1, (1, 2))))
ONE, TWO = ("x",), ("x", "y")
THROW, SUM = ("throw", 0, COIN), ("sum", 1, COIN, 0)
DOUBLE, TWIN = ("sum", 0, COIN, 0), ("sum", 1, COIN, 1)
METHODS = {
    "put": ["place", "step"], "drop": ["place"], "swap": ["place"], "undo": [], "redo": [], "at": ["version"], "copy": [],
    "share": ["start", "end"], "left": ["start"], "known": ["start", "end"], "mean": ["start", "counter"], "alike": ["value"], "parting": ["version"], "lean": [],
}
PROPERTIES = ("names", "steps", "program", "log", "version")


def state(desk):
    """Return all that can be seen of a desk, also by taking back and doing again."""
    other, back, again = desk.copy(), [], []
    while other.version:
        other.undo()
        back.append(other.program)
    while True:
        try:
            other.redo()
        except NothingToRedo:
            break
        again.append((other.program, other.log))
    return desk.names, desk.steps, desk.program, desk.log, desk.version, tuple(desk.at(number) for number in range(desk.version + 1)), back, again


class DeskCase(KindsCase):
    def check_error(self, desk, awaited, method, *arguments):
        """Check that the method raises the error, twice, and changes nothing."""
        before = state(desk)
        self.check_raises(awaited, getattr(desk, method), *arguments)
        self.check_same(state(desk), before)


class InterfaceTest(DeskCase):
    def test_methods(self):
        self.assertEqual(Desk.__module__, "everystart.desks")
        self.assertEqual(list(inspect.signature(Desk).parameters), ["names"])
        self.assertEqual(list(inspect.signature(desk_behind).parameters), ["names", "value"])
        self.assertEqual(desk_behind.__module__, "everystart.desks")
        for name, arguments in METHODS.items():
            self.assertIn(name, vars(Desk))
            self.assertEqual(list(inspect.signature(vars(Desk)[name]).parameters)[1:], arguments)
        for name in PROPERTIES + ("__eq__",):
            self.assertIn(name, vars(Desk))

    def test_by_name_as_by_place(self):
        calls = [("put", 0, SUM), ("put", 0, THROW), ("put", 2, ("less", 1)), ("swap", 0), ("drop", 2), ("undo",), ("redo",), ("at", 1), ("share", (0, 0), (1, 1)), ("left", (1, 1)),
                 ("known", (0, 0), (0, 0)), ("mean", (0, 0), 1), ("alike", (TWO, ())), ("parting", 2), ("lean",)]
        one, other = Desk(TWO), Desk(names=TWO)
        for name, *arguments in calls:
            before = copy.deepcopy(arguments)
            told = getattr(one, name)(*arguments)
            self.check_same(getattr(other, name)(**dict(zip(METHODS[name], arguments))), told)
            self.check_same(arguments, before)
            self.check_same(state(other), state(one))
        self.assertTrue(desk_behind(value=one.log, names=TWO) == one)

    def test_properties_can_only_be_read(self):
        desk = Desk(TWO)
        desk.put(0, THROW)
        for name in PROPERTIES:
            before = getattr(desk, name)
            for value in (before, (), 0, None):
                with self.assertRaises(AttributeError):
                    setattr(desk, name, value)
            with self.assertRaises(AttributeError):
                delattr(desk, name)
            self.check_same(getattr(desk, name), before)

    def test_new_desks(self):
        desk = Desk(TWO)
        self.check_same(state(desk), (TWO, (), (TWO, ()), (), 0, ((TWO, ()),), [], []))
        for value in drawn.values() + [["x"], ("x", "x"), ("x", "do"), ("x", "y", "z", "a"), ("X",), (1,), desk, (desk,)]:
            error = program_error((value, ()))
            if error is None:
                self.check_same(Desk(value).names, value)
            else:
                self.check_raises(BadProgram(error), Desk, value)
                self.check_raises(BadProgram(error), desk_behind, value, ())
                self.check_raises(BadProgram(error), desk_behind, value, None)
        self.check_raises(BadProgram(("names", "form")), Desk, ())
        self.check_raises(BadProgram(("names", ("twice", 1))), Desk, ("x", "x"))


class Plain:
    """A plain list of the edits and steps of a desk, for the tests."""

    def __init__(self):
        self.rows, self.log, self.undone = [()], [], []

    def edit(self, word, arguments):
        steps = list(self.rows[-1])
        if word == "put":
            steps.insert(*arguments)
        elif word == "drop":
            steps.pop(arguments[0])
        else:
            steps[arguments[0]:arguments[0] + 2] = steps[arguments[0]:arguments[0] + 2][::-1]
        self.rows, self.log, self.undone = self.rows + [tuple(steps)], self.log + [(word, arguments)], []

    def undo(self):
        self.undone.append((self.rows.pop(), self.log.pop()))

    def redo(self):
        steps, edit = self.undone.pop()
        self.rows.append(steps)
        self.log.append(edit)


class EditsTest(DeskCase):
    def wanted(self, draw, plain, many):
        """Return a word and arguments of an edit, mostly right ones."""
        steps = plain.rows[-1]
        word = draw.choice(("put", "put", "put", "drop", "swap"))
        place = draw.randint(-1, len(steps) + 1) if draw.random() < 0.2 else draw.randint(0, max(0, len(steps) - {"put": 0, "drop": 1, "swap": 2}[word]))
        if word != "put":
            return word, (place,)
        step = drawn.Steps(draw, many, tills=1).steps(draw.choice((1, 1, 1, 3)))[0]
        return word, (place, step if draw.random() < 0.9 else draw.choice((("less", many), None, [step], ("do", "x"), (step,))))

    def awaited(self, plain, many, word, arguments):
        """Return the error that the edit is to raise, or None."""
        steps = plain.rows[-1]
        if not 0 <= arguments[0] <= len(steps) - {"put": 0, "drop": 1, "swap": 2}[word]:
            return Unfit()
        if word == "put":
            error = program_error((drawn.NAMES[:many], (arguments[1],)))
            if error is not None:
                return BadProgram(error)
            if drawn.size(steps) + drawn.size((arguments[1],)) > 40:
                return TooMany(40)
        return TooManyEdits() if len(plain.log) == 40 else None

    def test_drawn_edits(self):
        draw = drawn.drawing("edits")
        for row in range(2000):
            many = draw.randint(1, 3)
            desk, plain = Desk(drawn.NAMES[:many]), Plain()
            for _ in range(70 if row < 10 else draw.randint(5, 25)):
                how = draw.random()
                if how < 0.15 or row < 10 and how < 0.03:
                    self.back_or_again(desk, plain, "undo", plain.log, NothingToUndo())
                elif how < 0.3 and row >= 10:
                    self.back_or_again(desk, plain, "redo", plain.undone, NothingToRedo())
                else:
                    word, arguments = self.wanted(draw, plain, many)
                    error = self.awaited(plain, many, word, arguments)
                    if error is not None:
                        self.check_raises(error, getattr(desk, word), *arguments)
                    else:
                        plain.edit(word, arguments)
                        self.check_same(getattr(desk, word)(*arguments), len(plain.log))
                self.check_desk(desk, plain, many)
            self.check_versions(desk, plain, many)

    def back_or_again(self, desk, plain, word, rows, error):
        if rows:
            getattr(plain, word)()
            self.check_same(getattr(desk, word)(), len(plain.log))
        else:
            self.check_raises(error, getattr(desk, word))

    def check_desk(self, desk, plain, many):
        names = drawn.NAMES[:many]
        told = (names, plain.rows[-1], (names, plain.rows[-1]), tuple(plain.log), len(plain.log))
        self.check_same((desk.names, desk.steps, desk.program, desk.log, desk.version), told)

    def check_versions(self, desk, plain, many):
        names = drawn.NAMES[:many]
        self.check_same([desk.at(number) for number in range(desk.version + 1)], [(names, steps) for steps in plain.rows])
        behind = desk_behind(names, desk.log)
        self.assertTrue(behind == desk)
        self.check_same(behind.log, desk.log)
        for number in range(desk.version, 0, -1):
            self.check_same(behind.program, desk.at(number))
            self.check_same(behind.undo(), number - 1)

    def test_places_and_versions_of_all_kinds(self):
        desk = Desk(TWO)
        desk.put(0, THROW)
        desk.put(1, SUM)
        for value in drawn.values() + [desk, -1, 3, (0,), "0"]:
            self.check_error_of_place(desk, value)
            self.check_raises(NoVersion(value), desk.at, value) if not same(value, 0) and not same(value, 1) else self.check_same(desk.at(value), desk.copy().at(value))
        self.check_same((desk.version, desk.steps), (2, (THROW, SUM)))

    def check_error_of_place(self, desk, value):
        right = {"put": (0, 1, 2), "drop": (0, 1), "swap": (0,)}
        for word, places in right.items():
            if not any(same(value, place) for place in places):
                self.check_error(desk, Unfit(), word, *((value, THROW) if word == "put" else (value,)))
        if not any(same(value, number) for number in range(3)):
            with self.assertRaises(NoVersion) as caught:
                desk.parting(value)
            self.assertIs(caught.exception.given, value)

    def test_steps_of_all_kinds(self):
        desk = Desk(TWO)
        desk.put(0, THROW)
        deep = ("less", 0)
        for _ in range(7):
            deep = ("if", (0, "below", 1), (deep,), ())
        for value in drawn.values() + [desk, [THROW], (THROW,), ("less", 2), ("set", 0, 21), ("do", "x"), ("skip",), deep, ("either", (1, 2), (THROW,) * 40, ())]:
            self.check_error(desk, BadProgram(program_error((TWO, (value,)))), "put", 0, value)

    def test_two_faults_at_once(self):
        desk = Desk(ONE)
        for number in range(39):
            desk.put(0, ("add", 0, 1))
        nested = ("either", (1, 2), (("less", 0),), ())
        self.check_error(desk, Unfit(), "put", 40, ("less", 5))
        self.check_error(desk, Unfit(), "put", 40, nested)
        self.check_error(desk, BadProgram(("steps", ("counter", (0,)))), "put", 0, ("less", 5))
        self.check_error(desk, TooMany(40), "put", 0, nested)
        self.check_same(desk.put(39, ("less", 0)), 40)
        self.check_error(desk, TooMany(40), "put", 0, ("less", 0))
        self.check_error(desk, BadProgram(("steps", ("step", (0,)))), "put", 0, None)
        self.check_error(desk, Unfit(), "drop", 40)
        self.check_error(desk, Unfit(), "swap", 39)
        self.check_error(desk, TooManyEdits(), "drop", 39)
        self.check_error(desk, TooManyEdits(), "swap", 38)

    def test_forty_steps_and_one_more(self):
        desk = Desk(ONE)
        desk.put(0, ("either", (1, 2), (("less", 0),) * 20, (("less", 0),) * 18))
        desk.put(1, ("less", 0))
        self.check_error(desk, TooMany(40), "put", 1, ("less", 0))
        self.check_same([desk.drop(1), desk.put(0, ("add", 0, 2))], [3, 4])
        self.check_error(desk, TooMany(40), "put", 0, ("less", 0))

    def test_forty_edits_and_one_more(self):
        desk = Desk(ONE)
        for number in range(20):
            self.check_same((desk.put(0, ("add", 0, 1)), desk.drop(0)), (2 * number + 1, 2 * number + 2))
        self.check_error(desk, TooManyEdits(), "put", 0, ("less", 0))
        self.check_error(desk, Unfit(), "drop", 0)
        self.check_same([desk.undo(), desk.undo()], [39, 38])
        self.check_same([desk.redo(), desk.redo()], [39, 40])
        self.check_error(desk, NothingToRedo(), "redo")
        self.check_same([desk.undo(), desk.put(0, ("less", 0)), desk.version], [39, 40, 40])
        self.check_error(desk, NothingToRedo(), "redo")
        self.check_error(desk, TooManyEdits(), "swap", 0)
        self.check_same(desk.undo(), 39)
        self.check_same(desk.swap(0) if len(desk.steps) > 1 else desk.drop(0), 40)

    def test_undo_and_redo(self):
        desk = Desk(ONE)
        self.check_error(desk, NothingToUndo(), "undo")
        self.check_error(desk, NothingToRedo(), "redo")
        desk.put(0, ("less", 0))
        desk.put(0, ("add", 0, 1))
        self.check_same([desk.undo(), desk.undo()], [1, 0])
        self.check_error(desk, NothingToUndo(), "undo")
        self.check_same([desk.redo(), desk.steps, desk.redo(), desk.steps], [1, (("less", 0),), 2, (("add", 0, 1), ("less", 0))])
        desk.undo()
        # What raises is no edit: it does not forget what was taken back.
        self.check_raises(Unfit(), desk.swap, 0)
        self.check_same(desk.redo(), 2)
        desk.undo()
        desk.drop(0)
        self.check_error(desk, NothingToRedo(), "redo")
        self.check_error(desk, NoVersion(3), "at", 3)

    def test_copies(self):
        draw = drawn.drawing("copies")
        for _ in range(150):
            desk, plain = Desk(TWO), Plain()
            for _ in range(draw.randint(0, 8)):
                self.some_edit(draw, desk)
            other = desk.copy()
            self.assertTrue(type(other) is Desk and other == desk and other is not desk)
            before = state(desk)
            self.check_same(state(other), before)
            for changing, kept in ((other, desk), (desk, other)):
                before = state(kept)
                for _ in range(4):
                    self.some_edit(draw, changing)
                self.check_same(state(kept), before)

    def some_edit(self, draw, desk):
        try:
            draw.choice((
                lambda: desk.put(draw.randint(0, len(desk.steps)), draw.choice((THROW, SUM, ("less", 1)))), lambda: desk.drop(draw.randint(0, 3)),
                lambda: desk.swap(0), desk.undo, desk.undo, desk.redo,
            ))()
        except ThrowError:
            pass

    def test_equal_desks(self):
        one, other = Desk(TWO), Desk(TWO)
        self.assertTrue(one == other and not one != other)
        one.put(0, THROW)
        self.assertTrue(one != other and not one == other)
        other.put(0, SUM)
        other.put(1, THROW)
        other.drop(0)
        self.assertTrue(one == other and not one != other)
        one.undo()
        self.assertFalse(one == other)
        self.assertTrue(Desk(TWO) != Desk(("x", "z")) and Desk(ONE) != Desk(TWO))
        for value in drawn.values() + [one.program, one.steps, one.names, (TWO, ())]:
            self.assertTrue(one != value and value != one)
            self.assertFalse(one == value or value == one)


class DeskBehindTest(DeskCase):
    LOG = (("put", (0, SUM)), ("put", (0, THROW)), ("swap", (0,)), ("drop", (1,)))

    def test_right_logs(self):
        desk = desk_behind(TWO, self.LOG)
        self.assertIs(type(desk), Desk)
        self.check_same((desk.steps, desk.log, desk.version), ((SUM,), self.LOG, 4))
        self.check_same(state(desk_behind(ONE, ())), state(Desk(ONE)))
        self.check_error(desk, NothingToRedo(), "redo")

    def test_wrong_logs(self):
        rows = [
            (self.LOG[1:], 1), (self.LOG[2:], 0), (self.LOG + self.LOG[2:3], 4), (self.LOG + self.LOG[3:], 4), (self.LOG[::-1], 0), ((("put", (0, SUM, 0)),), 0), ((("put", (0,)),), 0), ((("drop", ()),), 0),
            (self.LOG + (("drop", (0, 0)),), 4), (self.LOG + (("swap", ()),), 4), (self.LOG + (("undo", ()),), 4), (self.LOG + (("redo", ()),), 4), ((("put", [0, SUM]),), 0), ((["put", (0, SUM)],), 0), ((("put", 0, SUM),), 0),
            (self.LOG[:1] + (None,) + self.LOG[1:], 1), (self.LOG[:1] + (("put", (0, ("less", 2))),), 1), (self.LOG[:1] + (("put", (True, SUM)),), 1), ((("drop", (0,)), None), 0), ((None, ("drop", (0,))), 0),
            ((("Put", (0, SUM)),), 0), (((("put",), (0, SUM)),), 0), ((("put", ((0, SUM))), ("put", (2, SUM))), 1), ((("put", (0, SUM)),) * 41, 40), ((("put", (0, SUM)), ("drop", (0,))) * 21, 40),
        ]
        for value, place in rows:
            with self.subTest(value=value[:3]):
                self.check_raises(BadLog(place), desk_behind, TWO, value)
                self.check_raises(BadLog(0), desk_behind, TWO, list(value))

    def test_values_of_all_kinds(self):
        for value in drawn.values() + [Desk(TWO), (Desk(TWO),), "Put", "undo", list(self.LOG)]:
            if not same(value, ()):
                self.check_raises(BadLog(0), desk_behind, TWO, value)
            self.check_raises(BadLog(4), desk_behind, TWO, self.LOG + (value,))
            self.check_raises(BadLog(4), desk_behind, TWO, self.LOG + (("put", value),))
            self.check_raises(BadLog(4), desk_behind, TWO, self.LOG + ((value, (0, SUM)),))

    def test_drawn_logs_spoilt(self):
        draw = drawn.drawing("logs")
        for _ in range(500):
            desk = Desk(TWO)
            while desk.version < 8:
                EditsTest().some_edit(draw, desk)
            log, place = list(desk.log), draw.randrange(8)
            how = draw.choice(("out", "double", "exchange"))
            if how == "out":
                log.pop(place)
            elif how == "double":
                log.insert(place, log[place])
            else:
                log[place:place + 2] = log[place:place + 2][::-1]
            plain, wrong = Plain(), None
            for number, (word, arguments) in enumerate(log):
                if not 0 <= arguments[0] <= len(plain.rows[-1]) - {"put": 0, "drop": 1, "swap": 2}[word]:
                    wrong = number
                    break
                plain.edit(word, arguments)
            if wrong is None:
                self.check_same(desk_behind(TWO, tuple(log)).steps, plain.rows[-1])
            else:
                self.check_raises(BadLog(wrong), desk_behind, TWO, tuple(log))


class TellingTest(DeskCase):
    """What the desk tells is what the functions tell."""

    def drawn_desk(self, draw, many, **more):
        desk = Desk(drawn.NAMES[:many])
        for step in drawn.program(draw, many, draw.randint(0, 4), most_number=4, most_side=3, most_sides=2, **more)[1]:
            desk.put(draw.randint(0, len(desk.steps)), step)
        for _ in range(2):
            if desk.version and draw.random() < 0.3:
                desk.undo()
        return desk

    def check_told(self, desk, function, arguments, method, *given):
        """Check that the method tells what function tells, or raises as it does, and changes nothing."""
        before = state(desk)
        try:
            told = function(*arguments)
        except ThrowError as error:
            self.check_raises(error, getattr(desk, method), *given)
        else:
            for _ in range(2):
                self.check_same(getattr(desk, method)(*given), told)
        self.check_same(state(desk), before)

    def test_drawn_desks(self):
        draw = drawn.drawing("telling desks")
        for _ in range(250):
            many = draw.randint(1, 3)
            desk = self.drawn_desk(draw, many, tills=1)
            program, counter = desk.program, draw.randrange(many)
            start, end = tuple(draw.randint(0, 3) for _ in range(many)), tuple(draw.randint(0, 5) for _ in range(many))
            self.check_told(desk, share_of, (program, start, end), "share", start, end)
            self.check_told(desk, left_of, (program, start), "left", start)
            self.check_told(desk, known_share, (program, start, end), "known", start, end)
            self.check_told(desk, mean_of, (program, start, counter), "mean", start, counter)
            other = drawn.program(draw, many, 2, most_number=2, most_side=2)
            self.check_told(desk, alike, (program, other), "alike", other)
            self.check_told(desk, lean, (program,), "lean")
            for version in range(desk.version + 1):
                self.check_told(desk, alike, (desk.at(version), program), "parting", version)
            self.assertIsNone(desk.parting(desk.version))
            self.assertIsNone(desk.alike(desk.program))
            self.assertIsNone(desk.alike(desk.lean()))

    def test_starts_ends_and_counters_that_are_unfit(self):
        desk = desk_behind(TWO, (("put", (0, THROW)), ("put", (1, SUM))))
        self.check_same((desk.share((20, 20), (20, 60)), desk.left((20, 20)), desk.known((20, 0), (60, 60)), desk.mean((20, 0), 0)), ((0, 1), (1, 1), (0, 1), (41, 2)))
        starts = drawn.values() + [(0,), (0, 0, 0), [0, 0], (21, 0), (0, 21), (-1, 0), (0, True), (False, 0), ((0,), 0), ("0", 0), desk, (0, None), "00"]
        ends = [end for end in starts if not same(end, (21, 0)) and not same(end, (0, 21))] + [(61, 0), (0, 61)]
        for value in starts:
            for method, given in (("share", (value, (0, 0))), ("left", (value,)), ("known", (value, (0, 0))), ("mean", (value, 0)), ("share", (value, value)), ("mean", (value, 2))):
                self.check_raises(Unfit(), getattr(desk, method), *given)
        for value in ends:
            for method in ("share", "known"):
                self.check_raises(Unfit(), getattr(desk, method), (0, 0), value)
        for value in drawn.values() + [2, -1, "x", (0,), desk]:
            if not same(value, 0) and not same(value, 1):
                self.check_raises(Unfit(), desk.mean, (0, 0), value)
        self.check_same(desk.version, 2)

    def test_programs_that_are_unfit(self):
        desk = desk_behind(TWO, (("put", (0, THROW)),))
        for value in drawn.values() + [desk, (ONE, ()), (("x", "y", "z"), ()), [TWO, ()], (TWO, []), (TWO, (("less", 2),)), (list(TWO), ()), (TWO, (("less", 0),) * 41), (TWO,), (("x", "x"), ())]:
            self.check_error(desk, Unfit(), "alike", value)
        self.check_same(desk.alike((("a", "b"), (THROW,))), None)
        self.check_same(desk.alike((("y", "x"), ())), ((0, 0), (0, 0)))

    def test_unfit_ahead_of_what_is_too_many_or_never(self):
        great = desk_behind(TWO, tuple(("put", (0, step)) for step in (TWIN, DOUBLE, TWIN, DOUBLE)))
        for method, right, wrong in (("share", ((20, 20), (0, 0)), ((20, 20), (0,))), ("left", ((20, 20),), ((20,),)), ("known", ((20, 20), (0, 0)), ((20, 21), (0, 0))), ("mean", ((20, 20), 0), ((20, 20), 2))):
            self.check_error(great, TooMany(2000), method, *right)
            self.check_error(great, Unfit(), method, *wrong)
        never = desk_behind(ONE, (("put", (0, ("seen", (0, "below", 1)))),))
        self.check_error(never, Never(), "known", (1,), (0,))
        self.check_error(never, Never(), "mean", (1,), 0)
        self.check_error(never, Unfit(), "mean", (1,), 1)
        self.check_same((never.share((1,), (1,)), never.left((1,)), never.mean((0,), 0)), ((0, 1), (0, 1), (0, 1)))

    def test_too_much(self):
        tenfold = desk_behind(ONE, (("put", (0, ("sum", 0, ("die", ((9, (1, 1)),)), 0))),) * 9)
        self.check_error(tenfold, TooMany(5000), "alike", (ONE, ()))
        self.check_error(tenfold, TooMany(5000), "parting", 0)
        self.check_error(tenfold, TooMany(5000), "lean")
        self.check_error(tenfold, NoVersion(10), "parting", 10)
        self.check_same(tenfold.share((1,), (1,)), (0, 1))


class LawsTest(DeskCase):
    """What [K6] tells."""

    def test_where_nothing_is_done_otherwise(self):
        draw = drawn.drawing("otherwise")
        parted = 0
        for _ in range(200):
            many = draw.choice((1, 2))
            desk = TellingTest().drawn_desk(draw, many)
            version = draw.randint(0, desk.version)
            elder, parting = desk.at(version), desk.parting(version)
            starts = [tuple(draw.randint(0, 3) for _ in range(many)) for _ in range(3)]
            for start in starts:
                end = tuple(draw.randint(0, 4) for _ in range(many))
                if parting is None or (sum(start), start, sum(end), end) < (sum(parting[0]), parting[0], sum(parting[1]), parting[1]):
                    self.check_same(desk.share(start, end), share_of(elder, start, end))
                if parting is None:
                    self.check_same(desk.left(start), left_of(elder, start))
            if parting is not None and max(parting[0]) <= 20 and max(parting[1]) <= 60:
                parted += 1
                self.assertNotEqual(desk.share(*parting), share_of(elder, *parting))
        self.assertGreater(parted, 60)

    def test_swaps_of_unlike_counters_change_nothing(self):
        draw = drawn.drawing("swaps")
        words = ("set", "add", "less", "throw")
        for _ in range(150):
            desk = Desk(TWO)
            for counter in (0, 1):
                step = drawn.Steps(draw, 1, words=words, tills=1).steps(1)[0]
                desk.put(desk.version, (step[0], counter) + step[2:])
            desk.put(draw.randint(0, 2), THROW) if draw.random() < 0.3 else None
            places = [place for place in range(len(desk.steps) - 1) if desk.steps[place][1] != desk.steps[place + 1][1]]
            desk.swap(draw.choice(places))
            self.assertIsNone(desk.parting(desk.version - 1))

    def test_what_was_handed_in_stands_in_the_log(self):
        step = ("throw", 0, ("die", ((0, (1, 2)), (1, (1, 2)))))
        desk = Desk(ONE)
        desk.put(0, step)
        self.assertIs(desk.log[0][1][1], step)
        log, steps, program = desk.log, desk.steps, desk.program
        desk.put(0, ("less", 0))
        self.check_same((log, steps, program), ((("put", (0, step)),), (step,), (ONE, (step,))))
        self.assertIsNot(desks.Desk(ONE), desks.Desk(ONE))


if __name__ == "__main__":
    unittest.main()
