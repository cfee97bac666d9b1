"""[A3] and [G1] to [G4]: needed and needless steps, lean programs, and steps that can be exchanged."""

import unittest

from everystart import leaning
from everystart.alikeness import alike
from everystart.errors import TooMany, Unfit
from everystart.leaning import commute, free, lean, needed, needless
from everystart.programs import put_behind, step_at, ways, without
from everystart.runs import share_of
from tests import drawn
from tests.kinds import KindsCase
from tests.runner import first_parting, starts_to

COIN, HALF = ("die", ((0, (1, 2)), (1, (1, 2)))), ("till", (1, 2))
ONE, TWO = ("x",), ("x", "y")
OVER, PAIR = (ONE, (("add", 0, 1), ("set", 0, 5))), (ONE, (("add", 0, 1), ("less", 0)))
GUARD = (TWO, (("set", 0, 1), ("if", (0, "below", 1), (("add", 1, 1),), ()), ("set", 0, 2)))
UP, THREE, POUR = (ONE, (("add", 0, 1),)), (("n",), (("set", 0, 3),)), (TWO, (("sum", 1, COIN, 0),))
TENFOLD = (TWO, (("sum", 0, ("die", ((9, (1, 1)),)), 0),) * 9)


def few(draw, many, nodes, **more):
    """Return a program of few steps with small numbers."""
    return drawn.program(draw, many, nodes, most_number=3, most_test=2, most_side=2, most_sides=2, **more)


def padded(draw, many, steps):
    """Return steps with needless ones put in ahead of some of them, or around them."""
    found = []
    for step in steps:
        counter = draw.randrange(many)
        found += draw.choice((
            [], [], [("seen", (counter, "below", 1)), ("set", counter, 0)] if step[0] == "seen" else [], [("if", drawn.test_of(draw, many), (), ())],
            [("either", (1, 3), (), ())], [("add", step[1], 2)] if step[0] == "set" else [], [("sum", counter, ("die", ((0, (1, 1)),)), 0)],
        ))
        found.append(step)
    return tuple(found)


class CallsTest(KindsCase):
    def test_by_place_and_by_name_twice(self):
        self.check_calls(leaning, [
            ("needed", ["program", "way"], [GUARD, (0,)], ((0, 0), (2, 0))),
            ("needed", ["program", "way"], [OVER, (0,)], None),
            ("needless", ["program"], [GUARD], ((1,), (1, 0, 0))),
            ("lean", ["program"], [GUARD], (TWO, (("set", 0, 2),))),
            ("commute", ["one", "other"], [UP, THREE], ((0,), (3,))),
            ("commute", ["one", "other"], [THREE, THREE], None),
            ("free", ["program"], [(TWO, (("add", 0, 1), ("add", 1, 1), ("set", 0, 3)))], (0, 1)),
        ])

    def test_ways_of_all_kinds_of_values(self):
        for value in drawn.values() + [(0,), [0], (0.5,), (1, 0), (1, 0, 0, 0), (1, 1, 0), (-1,), (3,), ((0,),), (True,), (1, False, 0), 1, "0"]:
            if isinstance(value, tuple) and value in ((0,),):
                continue
            self.check_raises(Unfit(), needed, GUARD, value)
            self.check_raises(Unfit(), needed, way=value, program=(ONE, ()))
        for program in (GUARD, OVER, PAIR):
            for way in ways(program):
                self.assertIn(needed(program, way) is None, (True, False))
                self.check_raises(Unfit(), needed, program, list(way))

    def test_too_much(self):
        for call in ((needed, TENFOLD, (0,)), (needless, TENFOLD), (lean, TENFOLD), (commute, TENFOLD, POUR)):
            self.check_raises(TooMany(5000), *call)
        self.check_raises(TooMany(5000), free, (TWO, TENFOLD[1][:1] + (("less", 0),) + TENFOLD[1]))
        self.check_raises(Unfit(), needed, TENFOLD, (9,))


class NeededTest(KindsCase):
    def test_drawn_programs(self):
        """Each needed step against running from small starts, each needless one by the tuple of them."""
        draw = drawn.drawing("needed")
        for _ in range(500):
            many = draw.choice((1, 1, 2, 3))
            program = few(draw, many, draw.randint(0, 5))
            if draw.random() < 0.5:
                program = (program[0], padded(draw, many, program[1]))
            found = []
            for way in ways(program):
                parting = needed(program, way)
                told = first_parting(program, without(program, way), starts_to(many, 3 if many < 3 else 2))
                if parting is None:
                    found.append(way)
                    self.assertIsNone(told)
                elif sum(parting[0]) <= (3 if many < 3 else 2):
                    self.check_same(parting, told)
                self.check_same(parting, alike(program, without(program, way)))
            self.check_same(needless(program), tuple(found))
            self.assertEqual(found, sorted(found))

    def test_by_hand(self):
        rows = [
            ((ONE, ()), ()), ((ONE, (("set", 0, 0), ("set", 0, 0))), ((0,), (1,))), ((ONE, (("less", 0), ("less", 0))), ()), ((ONE, (("throw", 0, HALF), ("set", 0, 1))), ((0,),)),
            ((ONE, (("seen", (0, "from", 1)), ("seen", (0, "from", 2)))), ((0,),)), ((ONE, (("if", (0, "below", 1), (("set", 0, 0),), ()),)), ((0,), (0, 0, 0))),
            ((ONE, (("either", (1, 3), (("add", 0, 1),), (("add", 0, 1),)),)), ()), ((ONE, (("either", (1, 3), (), (("sum", 0, ("die", ((0, (1, 1)),)), 0),)),)), ((0,), (0, 1, 0))),
            ((TWO, (("set", 1, 0), ("sum", 0, HALF, 1), ("throw", 1, COIN))), ((1,),)), ((TWO, (("add", 1, 1), ("less", 1), ("add", 0, 1), ("set", 0, 0))), ((2,),)),
            ((ONE, (("seen", (0, "below", 1)), ("seen", (0, "from", 1)), ("add", 0, 1))), ((2,),)),
        ]
        for program, told in rows:
            self.check_same(needless(program), told)


class LeanTest(KindsCase):
    def own(self, program):
        """Return what is left if the needless step with the least way is left out as long as there is one."""
        while True:
            out = [way for way in sorted(ways(program)) if alike(program, without(program, way)) is None]
            if not out:
                return program
            program = without(program, out[0])

    def test_drawn_programs(self):
        draw = drawn.drawing("lean")
        shorter = 0
        for _ in range(350):
            many = draw.choice((1, 2))
            names, steps = few(draw, many, draw.randint(0, 5), tills=1)
            program = (names, padded(draw, many, steps))
            found = lean(program)
            self.check_same(found, self.own(program))
            self.assertIsNone(alike(found, program))
            self.check_same(needless(found), ())
            self.check_same(lean(found), found)
            self.assertLessEqual(len(ways(found)), len(ways(program)))
            shorter += found != program
            for way in ways(found):
                start, end = needed(found, way)
                self.assertNotEqual(share_of(found, start, end), share_of(without(found, way), start, end))
        self.assertGreater(shorter, 100)

    def test_by_hand(self):
        rows = [
            ((ONE, ()), ()), (OVER, (("set", 0, 5),)), (PAIR, PAIR[1]), (GUARD, (("set", 0, 2),)), ((ONE, (("set", 0, 0), ("set", 0, 0))), (("set", 0, 0),)),
            ((ONE, (("set", 0, 1), ("set", 0, 2)) * 20), (("set", 0, 2),)), ((ONE, (("less", 0),) * 30 + (("set", 0, 3),)), (("set", 0, 3),)),
            ((ONE, (("seen", (0, "from", 1)), ("if", (0, "from", 1), (("less", 0),), (("add", 0, 3),)))), (("seen", (0, "from", 1)), ("if", (0, "from", 1), (("less", 0),), ()))),
        ]
        for (names, steps), told in rows:
            self.check_same(lean((names, steps)), (names, told))

    def test_names_are_kept(self):
        self.check_same(lean((("abc",), (("add", 0, 1), ("set", 0, 1)))), (("abc",), (("set", 0, 1),)))


class CommuteTest(KindsCase):
    def test_drawn_programs(self):
        draw = drawn.drawing("commute")
        for _ in range(800):
            many = draw.choice((1, 2, 3))
            one, other = few(draw, many, draw.randint(0, 3)), few(draw, many, draw.randint(0, 3))
            found = commute(one, other)
            self.check_same(commute(other, one), found)
            told = first_parting(put_behind(one, other), put_behind(other, one), starts_to(many, 3 if many < 3 else 2))
            if told is not None or found is not None and sum(found[0]) <= (3 if many < 3 else 2):
                self.check_same(found, told)
            self.assertIsNone(commute(one, one))
            self.assertIsNone(commute(one, (("p", "q", "r")[:many], ())))

    def test_unlike_counters_commute(self):
        draw = drawn.drawing("unlike counters")
        words = ("set", "add", "less", "throw", "either", "if", "seen", "sum")
        for _ in range(150):
            one = few(draw, 1, draw.randint(1, 4), words=words, tills=1)[1]
            other = tuple(shifted(step) for step in few(draw, 1, draw.randint(1, 4), words=words, tills=1)[1])
            self.assertIsNone(commute((TWO, one), (TWO, other)))

    def test_many_steps(self):
        """Twenty to forty steps together; one more is too many, unless they have unlike many counters."""
        draw = drawn.drawing("many steps")
        for number in range(20, 41):
            ahead = draw.randint(0, number)
            one, other = [(("x", "y"), tuple(("add", draw.randrange(2), draw.randint(1, 3)) for _ in range(many))) for many in (ahead, number - ahead)]
            self.assertIsNone(commute(one, other))
            self.assertIsNone(commute((ONE, (("less", 0),) * ahead), (ONE, (("less", 0),) * (number - ahead))))
            if 0 < ahead < number:
                mixed = (ONE, (("set", 0, 9),) + (("less", 0),) * (ahead - 1)), (ONE, (("add", 0, 1),) * (number - ahead))
                self.check_same(commute(*mixed), ((0,), (max(0, 10 - ahead),)))
            more = (TWO, (("either", (1, 2), (("less", 0),) * (39 - number + ahead), ()),))
            self.check_raises(TooMany(40), commute, (TWO, other[1] + (("less", 1),)), more)
            self.check_raises(Unfit(), commute, (ONE, (("less", 0),) * 40), more)

    def test_twenty_to_forty_steps_each(self):
        for ahead in range(20, 41):
            for behind in range(20, 41):
                one, other = (TWO, (("add", 0, 1),) * ahead), (TWO, (("less", 1),) * behind)
                if ahead == behind == 20:
                    self.assertIsNone(commute(one, other))
                    self.check_same(commute(one, (TWO, (("less", 0),) * behind)), ((0, 0), (0, 0)))
                else:
                    self.check_raises(TooMany(40), commute, one, other)

    def test_errors(self):
        self.check_raises(Unfit(), commute, UP, POUR)
        self.check_raises(TooMany(40), commute, (ONE, (("less", 0),) * 20), (ONE, (("add", 0, 1),) * 21))
        self.check_raises(TooMany(40), commute, (TWO, (("less", 0),) * 35), TENFOLD)
        self.check_raises(Unfit(), commute, (ONE, (("less", 0),) * 40), (TWO, (("less", 0),) * 40))


def shifted(step):
    """Return step of counter 0, with counter 1 in its place."""
    if step[0] in ("if", "either"):
        chooser = (1,) + step[1][1:] if step[0] == "if" else step[1]
        return (step[0], chooser) + tuple(tuple(shifted(inner) for inner in branch) for branch in step[2:])
    if step[0] == "seen":
        return "seen", (1,) + step[1][1:]
    return (step[0], 1, step[2], 1) if step[0] == "sum" else (step[0], 1) + step[2:]


class FreeTest(KindsCase):
    def test_drawn_programs(self):
        draw = drawn.drawing("free")
        for _ in range(400):
            many = draw.choice((1, 2, 3))
            names, steps = program = few(draw, many, draw.randint(0, 6))
            told = []
            for place in range(len(steps) - 1):
                exchanged = (names, steps[:place] + (steps[place + 1], steps[place]) + steps[place + 2:])
                if alike(program, exchanged) is None:
                    told.append(place)
                    self.assertIsNone(first_parting(program, exchanged, starts_to(many, 2)))
                if commute((names, steps[place:place + 1]), (names, steps[place + 1:place + 2])) is None:
                    self.assertIn(place, told)
            self.check_same(free(program), tuple(told))

    def test_by_hand(self):
        rows = [
            ((ONE, ()), ()), (UP, ()), (PAIR, ()), ((ONE, (("set", 0, 5), ("less", 0), ("add", 0, 1))), (1,)), ((ONE, (("less", 0),) * 4), (0, 1, 2)),
            ((TWO, (("throw", 0, HALF), ("throw", 1, COIN), ("throw", 0, COIN))), (0, 1)), ((TWO, (("throw", 0, HALF), ("sum", 1, COIN, 0), ("set", 0, 0))), ()),
        ]
        for program, told in rows:
            self.check_same(free(program), told)


class LawsTest(KindsCase):
    """What [G4] tells."""

    def test_needless_in_whatever_program(self):
        draw = drawn.drawing("needless in")
        for _ in range(250):
            many = draw.choice((1, 2))
            one, other = [(program[0], padded(draw, many, program[1])) for program in (few(draw, many, draw.randint(0, 3)), few(draw, many, draw.randint(0, 3)))]
            both = needless(put_behind(one, other))
            for way in needless(one):
                self.assertIn(way, both)
            for way in needless(other):
                self.assertIn((way[0] + len(one[1]),) + way[1:], both)

    def test_what_commutes_with_two(self):
        draw = drawn.drawing("with two")
        found = 0
        while found < 120:
            many = draw.choice((1, 2))
            one, a, b = [few(draw, many, draw.randint(1, 2), words=("set", "add", "add", "throw", "less", "either", "if")) for _ in range(3)]
            if commute(one, a) is None and commute(one, b) is None:
                found += 1
                self.assertIsNone(commute(one, put_behind(a, b)))
                self.assertIsNone(commute(put_behind(b, a), one))

    def test_none_of_the_told_kind_is_too_much(self):
        draw = drawn.drawing("told kind")
        for _ in range(300):
            many, sums = draw.choice((1, 2)), draw.choice((0, 1))
            more = {"tills": 1, "sums": sums, "most_number": 3 if sums else 20, "most_test": 2, "most_sides": 2, "most_side": 3}
            program = drawn.program(draw, many, 4, **more)
            self.assertLessEqual(len(ways(lean(program))), len(ways(program)) - (needless(program) != ()))
            free(program)
            names, steps = program
            commute((names, steps[:1]), (names, steps[1:]))

    def test_needed_steps_are_told_by_the_first_parting(self):
        for way, told in (((0,), ((0, 0), (2, 0))), ((2,), ((0, 0), (1, 0)))):
            start, end = needed(GUARD, way)
            self.check_same((start, end), told)
            self.assertNotEqual(share_of(GUARD, start, end), share_of(without(GUARD, way), start, end))
            self.assertIn(step_at(GUARD, way)[0], ("set",))


if __name__ == "__main__":
    unittest.main()
