"""[A3], [F1] to [F4] and [F8]: loops, what comes of them behind some rounds, and what a round keeps."""

import unittest
from fractions import Fraction
from math import comb

from everystart import loops
from everystart.alikeness import alike
from everystart.errors import TooMany, Unfit
from everystart.loops import ended, inside, keeps, loop_error, round_ahead
from everystart.programs import program_error
from everystart.runs import left_of, share_of
from tests import drawn
from tests.drawn import pair, worth
from tests.kinds import KindsCase
from tests.runner import MAX_ENDS, Runner, TooManyStands, passes

COIN, HALF, THIRD = ("die", ((0, (1, 2)), (1, (1, 2)))), ("till", (1, 2)), ("till", (1, 3))
ONE, TWO, SOME = ("x",), ("x", "y"), (0, "from", 1)
COUNTING = (TWO, SOME, (("less", 0), ("throw", 1, COIN)))
COUNTED = (TWO, (("sum", 1, COIN, 0), ("set", 0, 0)))
WAITING = (TWO, SOME, (("either", (1, 2), (("set", 0, 0),), (("add", 1, 1),)),))
TILLED = (TWO, SOME, (("less", 0), ("throw", 1, HALF)))


class CallsTest(KindsCase):
    def test_by_place_and_by_name_twice(self):
        ahead = (TWO, (("if", SOME, COUNTING[2] + COUNTED[1], ()),))
        self.check_calls(loops, [
            ("loop_error", ["value"], [COUNTING], None),
            ("loop_error", ["value"], [list(COUNTING)], "form"),
            ("ended", ["loop", "start", "many", "end"], [COUNTING, (2, 0), 2, (0, 1)], (1, 2)),
            ("ended", ["loop", "start", "many", "end"], [TILLED, (1, 0), 1, (0, 2)], (1, 8)),
            ("inside", ["loop", "start", "many"], [WAITING, (1, 0), 3], (1, 8)),
            ("inside", ["loop", "start", "many"], [TILLED, (2, 0), 1], (1, 1)),
            ("round_ahead", ["loop", "told"], [COUNTING, COUNTED], ahead),
            ("keeps", ["loop", "told"], [COUNTING, COUNTED], True),
        ])


class LoopErrorTest(KindsCase):
    def test_right_loops(self):
        draw = drawn.drawing("right loops")
        for _ in range(500):
            self.assertIsNone(loop_error(drawn.loop(draw, draw.randint(1, 3), draw.randint(0, 30), tills=2)))
        deep = ()
        for _ in range(5):
            deep = (("if", SOME, deep, ()),)
        self.assertIsNone(loop_error((ONE, SOME, deep)))
        self.assertIsNone(loop_error((ONE, SOME, ())))
        self.assertIsNone(loop_error((ONE, SOME, (("less", 0),) * 39)))

    def test_each_fault_by_itself(self):
        deep = ()
        for _ in range(6):
            deep = (("either", (1, 2), (), deep),)
        rows = [
            (COUNTING[:2], "form"), (COUNTING + (1,), "form"), (list(COUNTING), "form"), ((), "form"), (None, "form"), ("xyz", "form"),
            (((), SOME, ()), ("names", "form")), ((["x"], SOME, ()), ("names", "form")), (("x", SOME, ()), ("names", "form")), ((("x", "loop"), SOME, ()), ("names", ("name", 1))),
            ((("x", "y", "x"), SOME, ()), ("names", ("twice", 2))), ((ONE, (1, "from", 1), ()), ("steps", ("test", (0,)))), ((ONE, (0, "from", 5), ()), ("steps", ("test", (0,)))),
            ((ONE, (0, "above", 1), ()), ("steps", ("test", (0,)))), ((ONE, None, ()), ("steps", ("test", (0,)))), ((ONE, (False, "from", 1), ()), ("steps", ("test", (0,)))),
            ((ONE, SOME, None), ("steps", ("step", (0,)))), ((ONE, SOME, [("less", 0)]), ("steps", ("step", (0,)))), ((ONE, SOME, (("less", 0),) * 40), ("steps", ("many", ()))),
            ((ONE, SOME, (("less", 0), ("less", 1))), ("steps", ("counter", (0, 0, 1)))), ((ONE, SOME, (("add", 0, 0),)), ("steps", ("number", (0, 0, 0)))),
            ((ONE, SOME, deep), ("steps", ("nest", (0, 0) + (0, 1) * 5 + (0,)))), ((ONE, SOME, (("do", "x"),)), ("steps", ("step", (0, 0, 0)))),
            ((ONE, SOME, (("if", SOME, (), (("throw", 0, ("till", (1, 1))),)),)), ("steps", ("die", (0, 0, 0, 1, 0)))),
        ]
        for value, told in rows:
            self.check_same(loop_error(value), told if told == "form" else ("program", told))

    def test_two_faults_at_once(self):
        rows = [
            ((("x", "x"), None, None), ("names", ("twice", 1))), ((ONE, None, None), ("steps", ("step", (0,)))), ((ONE, None, (("less", 1),)), ("steps", ("test", (0,)))),
            ((ONE, None, (("less", 0),) * 40), ("steps", ("many", ()))), ((ONE, SOME, (("less", 1), None)), ("steps", ("counter", (0, 0, 0)))),
        ]
        for value, told in rows:
            self.check_same(loop_error(value), ("program", told))

    def test_values_of_all_kinds(self):
        for value in drawn.values():
            self.check_same(loop_error(value), "form")
            for place in range(3):
                spoilt = COUNTING[:place] + (value,) + COUNTING[place + 1:]
                told = program_error((spoilt[0], (("if", spoilt[1], spoilt[2], ()),)))
                self.check_same(loop_error(spoilt), None if told is None else ("program", told))


class Rounds:
    """An own running, round by round: the runs that are done, and those within."""

    def __init__(self, loop, start, runner):
        self.test, self.steps, self.runner = loop[1], loop[2], runner
        self.done, self.within = {}, {}
        self.put({start: runner.number((1, 1))})

    def put(self, stands):
        self.within = {}
        for stand, share in stands.items():
            where = self.within if passes(stand, self.test) else self.done
            where[stand] = where.get(stand, 0) + share

    def go(self):
        """Do one round more."""
        self.put(self.runner.behind(self.within, self.steps))
        if self.runner.bound and len(self.done) + len(self.within) > MAX_ENDS:
            raise TooManyStands()


class RoundsTest(KindsCase):
    """ended and inside, held against an own running."""

    def check(self, draw, loop, start, most):
        """Check some rounds; return by how many it was too many, None if by none of them."""
        rounds = Rounds(loop, start, Runner())
        many = 0
        for asked in sorted(draw.sample(range(most + 1), min(3, most + 1))):
            end = tuple(draw.randint(0, 9) for _ in start)
            try:
                while many < asked:
                    many += 1
                    rounds.go()
            except TooManyStands:
                for number in (many, 12):
                    self.check_raises(TooMany(2000), ended, loop, start, number, end)
                    self.check_raises(TooMany(2000), inside, loop, start, number)
                return many
            self.check_same(inside(loop, start, asked), pair(sum(rounds.within.values(), Fraction(0))))
            ends = draw.sample(sorted(rounds.done), min(2, len(rounds.done))) + draw.sample(sorted(rounds.within), min(1, len(rounds.within)))
            for stand in ends + [start, end]:
                self.check_same(ended(loop, start, asked, stand), pair(rounds.done.get(stand, 0)))
        return None

    def test_drawn_loops(self):
        draw = drawn.drawing("drawn loops")
        for _ in range(2500):
            many = draw.randint(1, 3)
            most = draw.choice((0, 1, 2, 3, 4, 12 if many == 1 else 5))
            loop = drawn.loop(draw, many, draw.randint(0, 6), sums=1 if most < 4 else 0, most_number=4, most_side=3, most_sides=3)
            self.check(draw, loop, tuple(draw.randint(0, 4) for _ in range(many)), most)

    def test_loops_that_do_not_drop_and_go_on(self):
        draw = drawn.drawing("going on")
        words = ("less", "less", "throw", "either", "if", "add")
        for _ in range(700):
            many = draw.randint(1, 2)
            loop = drawn.loop(draw, many, draw.randint(1, 5), words=words, most_number=2, most_side=2, most_sides=2)
            self.check(draw, loop, tuple(draw.randint(0, 6) for _ in range(many)), 12 if many == 1 else 6)

    def test_great_loops(self):
        draw = drawn.drawing("great loops")
        too_many = 0
        for _ in range(60):
            many = draw.randint(2, 3)
            loop = drawn.loop(draw, many, draw.randint(6, 20), words=("throw", "throw", "either", "if", "less"))
            too_many += self.check(draw, loop, tuple(draw.randint(0, 20) for _ in range(many)), 6) is not None
        self.assertGreater(too_many, 4)

    def test_too_many_just_behind_a_round(self):
        """Behind each step there are at most 2000 stands, but with those that were done ahead there are more."""
        sides = ("die", tuple((number, (1, 6)) for number in range(6)))
        grow = tuple(("throw", counter, sides) for counter in (1, 1, 2, 2, 2, 2, 2, 2))
        part = ("if", (1, "from", 1), (("either", (1, 2), (("set", 0, 0),), ()),), ())
        draw = drawn.drawing("just behind")
        for number in range(4, 9):
            for most in (1, 2, 3):
                loop = (("x", "y", "z"), SOME, grow[:number] + (part,))
                self.check(draw, loop, (1, 0, 0), most)

    def test_written_out_by_hand(self):
        draw = drawn.drawing("by hand")
        for _ in range(200):
            many = draw.randint(1, 2)
            names, test, steps = loop = drawn.loop(draw, many, draw.randint(0, 5), most_number=3, most_side=3, most_sides=2)
            start, rounds = tuple(draw.randint(0, 3) for _ in range(many)), draw.randint(0, 4)
            unrolled = (names, (("if", test, steps, ()),) * rounds)
            turned = test[0], "from" if test[1] == "below" else "below", test[2]
            try:
                told = left_of((names, unrolled[1] + (("seen", test),)), start)
            except TooMany:
                continue
            self.check_same(inside(loop, start, rounds), told)
            for end in [tuple(draw.randint(0, 3) for _ in range(many)) for _ in range(3)]:
                self.check_same(ended(loop, start, rounds, end), share_of((names, unrolled[1] + (("seen", turned),)), start, end))

    def test_no_round(self):
        for loop, within, without in ((COUNTING, (1, 7), (0, 7)), ((TWO, (1, "below", 3), (("add", 0, 1),)), (7, 2), (7, 3)), (TILLED, (4, 4), (0, 1))):
            self.check_same([inside(loop, start, 0) for start in (within, without)], [(1, 1), (0, 1)])
            self.check_same([ended(loop, start, 0, end) for start in (within, without) for end in (within, without, (9, 9))], [(0, 1)] * 4 + [(1, 1), (0, 1)])

    def test_great_fractions(self):
        great = 10 ** 399
        loop = (ONE, SOME, (("either", (1, great), (("set", 0, 0),), ()),))
        self.check_same(inside(loop, (1,), 12), pair(Fraction(great - 1, great) ** 12))
        self.check_same(ended(loop, (1,), 12, (0,)), pair(1 - Fraction(great - 1, great) ** 12))


class TilledLoopsTest(KindsCase):
    def test_counted_down(self):
        """A till in each round: behind x rounds y has the misses of x hits."""
        for share in ((1, 2), (1, 3), (4, 5)):
            loop, hit = (TWO, SOME, (("less", 0), ("throw", 1, ("till", share)))), worth(share)
            for number in range(4):
                for rounds in (0, 2, 3, 12):
                    self.check_same(inside(loop, (number, 1), rounds), pair(rounds < number))
                    for misses in (0, 1, 5, 40):
                        told = comb(max(0, number - 1) + misses, misses) * hit ** number * (1 - hit) ** misses if number else misses == 0
                        self.check_same(ended(loop, (number, 1), rounds, (0, 1 + misses)), pair(told if rounds >= number else 0))

    def test_till_enough(self):
        """In each round the tested counter grows by a till, until it is 3 or more."""
        loop = (ONE, (0, "below", 3), (("throw", 0, HALF),))
        for rounds in (0, 1, 2, 5, 12):
            self.check_same(inside(loop, (2,), rounds), pair(Fraction(1, 2) ** rounds))
            for number in (3, 4, 9):
                told = sum(Fraction(1, 2) ** (ahead + number - 1) for ahead in range(rounds))
                self.check_same(ended(loop, (2,), rounds, (number,)), pair(told))
            self.check_same(ended(loop, (2,), rounds, (2,)), (0, 1))

    def test_set_at_once_or_dropped(self):
        once = (TWO, SOME, (("throw", 1, THIRD), ("set", 0, 0)))
        self.check_same([ended(once, (4, 1), rounds, (0, 3)) for rounds in (0, 1, 12)], [(0, 1), (4, 27), (4, 27)])
        late = (TWO, SOME, (("throw", 1, HALF), ("seen", (1, "from", 1))))
        self.check_same([inside(late, (1, 0), rounds) for rounds in (0, 1, 2, 12)], [(1, 1), (1, 2), (1, 2), (1, 2)])
        self.check_same(inside((TWO, SOME, (("throw", 1, HALF), ("seen", (1, "below", 1)))), (1, 0), 5), (1, 32))

    def test_drawn_ones_against_cut_runs(self):
        draw = drawn.drawing("cut loops")
        for _ in range(400):
            many = draw.choice((1, 2))
            loop = drawn.loop(draw, many, draw.randint(1, 3), tills=2, sums=0, most_number=3, most_side=2, hits=((1, 2), (2, 3), (5, 6)))
            start, asked = tuple(draw.randint(0, 3) for _ in range(many)), draw.randint(0, 3)
            rounds = Rounds(loop, start, Runner(cut=40, bound=False))
            for _ in range(asked):
                rounds.go()
            self.assertLess(abs(worth(inside(loop, start, asked)) - sum(rounds.within.values())), 1e-6)
            for end in [tuple(draw.randint(0, 5) for _ in start) for _ in range(3)]:
                self.assertLess(abs(worth(ended(loop, start, asked, end)) - rounds.done.get(end, 0)), 1e-6)

    def test_none_of_the_told_kind_is_too_much(self):
        """Loops whose rounds, written out, are a program of the kind that [C2] tells of."""
        draw = drawn.drawing("told loops")
        for _ in range(600):
            rounds = draw.choice((1, 1, 1, 2, 3))
            loop = drawn.loop(draw, 2, 6 // rounds - 1, tills=6, sums=1 if rounds == 1 else 0, most_number=5, most_side=5)
            start = draw.choice(((6, 0), (0, 6), (3, 3), (2, 1), (0, 0)))
            self.assertTrue(0 <= worth(inside(loop, start, rounds)) <= 1)
            ended(loop, start, rounds, (draw.randint(0, 20), draw.randint(0, 20)))


class RoundAheadTest(KindsCase):
    def test_unfit_names(self):
        for names in (("y", "x"), ("x",), ("x", "y", "z"), ("a", "b"), ("y",)):
            for steps in ((), (("less", 0),)):
                self.check_raises(Unfit(), round_ahead, COUNTING, (names, steps))
                self.check_raises(Unfit(), keeps, COUNTING, (names, steps))
        self.check_raises(Unfit(), keeps, told=(("y", "x"), ()), loop=COUNTING)

    def test_drawn_ones(self):
        draw = drawn.drawing("ahead")
        for _ in range(300):
            many = draw.randint(1, 3)
            loop, told = drawn.loop(draw, many, draw.randint(0, 9), tills=1), drawn.program(draw, many, draw.randint(0, 9), tills=1)
            self.check_same(round_ahead(loop, told), (loop[0], (("if", loop[1], loop[2] + told[1], ()),)))

    def test_more_steps_and_deeper_than_a_program_has(self):
        deep = (("less", 0),)
        for _ in range(6):
            deep = (("if", (0, "below", 4), deep, ()),)
        loop, told = (ONE, SOME, (("less", 0),) * 39), (ONE, (("less", 0),) * 33 + deep)
        self.assertIsNone(loop_error(loop))
        self.assertIsNone(program_error(told))
        ahead = round_ahead(loop, told)
        self.check_same(program_error(ahead), ("steps", ("many", ())))
        self.check_same(share_of(ahead, (20,), (0,)), (1, 1))
        self.check_same([keeps(loop, told), keeps(loop, (ONE, (("set", 0, 0),))), keeps((ONE, SOME, deep[:1]), (ONE, deep + (("set", 0, 0),)))], [False, True, True])
        self.assertIsNone(alike((ONE, (("if", SOME, (("less", 0),) * 72 + deep, ()),)), round_ahead(loop, told)))


class KeepsTest(KindsCase):
    def check(self, rows, told):
        for loop, program in rows:
            self.assertIsNone(loop_error(loop))
            self.assertIsNone(program_error(program))
            self.check_same(keeps(loop, program), told)

    def counted_down(self, draw):
        """A loop that counts x down, throwing for y in each round: y grows by as many throws as x has."""
        die = draw.choice((COIN, THIRD, ("die", ((1, (1, 1)),)), ("die", ((0, drawn.chance(draw)),)), ("till", drawn.chance(draw))))
        if die[0] == "die" and len(die[1]) == 1 and die[1][0][0] == 0:
            share = worth(die[1][0][1])
            die = "die", ((0, pair(share)), (draw.randint(1, 3), pair(1 - share)))
        steps = [("less", 0), ("throw", 1, die)]
        return (TWO, SOME, tuple(steps[::draw.choice((1, -1))])), (TWO, (("sum", 1, die, 0), ("set", 0, 0)))

    def filled_up(self, draw):
        number = draw.randint(1, 4)
        die = drawn.sided(draw, 2, 1)
        while die == ("die", ((0, (1, 1)),)):
            die = drawn.sided(draw, 2, 1)
        loop = (ONE, (0, "below", number), (draw.choice((("add", 0, 1), ("throw", 0, die))),))
        return loop, (ONE, (("if", loop[1], (("set", 0, number),), ()),))

    def without_an_end(self, draw):
        """A loop that never ends keeps what forgets the start of all runs within, and what drops them."""
        loop = (TWO, SOME, (("add", 1, draw.randint(1, 3)),))
        branch = draw.choice(((("set", 0, 0), ("set", 1, 0)), (("set", 1, 5), ("throw", 1, COIN)), (("seen", (0, "below", 1)),)))
        return loop, (TWO, (("if", SOME, branch, ()),))

    def set_at_once(self, draw):
        die = drawn.die(draw, most_sides=2, most_number=3)
        steps = (("throw", 1, die), ("set", 0, 0))
        return (TWO, SOME, steps), (TWO, (("if", SOME, steps, ()),))

    def dropped(self, draw):
        test = (draw.choice((0, 1)), draw.choice(("below", "from")), draw.randint(1, 3))
        steps = (("less", 0),) * 4 + (("seen", test), ("set", 0, 0))
        return (TWO, SOME, steps), (TWO, (("if", SOME, steps, ()),))

    def waited(self, draw):
        share = drawn.chance(draw)
        loop = (TWO, SOME, (("either", share, (("set", 0, 0),), (("add", 1, 1),)),))
        return loop, (TWO, (("if", SOME, (("throw", 1, ("till", share)), ("set", 0, 0)), ()),))

    KINDS = (counted_down, filled_up, without_an_end, set_at_once, dropped, waited)

    def test_known_ones(self):
        draw = drawn.drawing("keeps")
        for _ in range(60):
            for kind in self.KINDS:
                self.check([kind(self, draw)], True)

    def test_with_one_thing_changed(self):
        draw = drawn.drawing("keeps not")
        for _ in range(30):
            loop, (names, steps) = self.counted_down(draw)
            self.check([(loop, (names, told)) for told in (steps[:1], steps[::-1], steps + (("add", 1, 1),), (("sum", 1, ("die", ((9, (1, 1)),)), 0),) + steps[1:])], False)
            self.check([((TWO, (0, "from", 2), loop[2]), (names, steps)), ((TWO, (1, "from", 1), loop[2]), (names, steps))], False)
            loop, (names, ((word, test, yes, no),)) = self.filled_up(draw)
            number = test[2]
            self.check([(loop, (names, (("if", test, (("set", 0, number + 1),), ()),))), (loop, (names, ())), (loop, (names, (("set", 0, number),)))], False)
            loop, (names, ((word, test, yes, no),)) = self.waited(draw)
            self.check([(loop, (names, (("if", test, told, ()),))) for told in (yes[:1], (("throw", 1, ("till", (1, 7))), ("set", 0, 0)), yes + (("add", 1, 1),))], False)
            self.check([(loop, (names, yes)), (loop, (names, (("if", test, yes, (("add", 1, 1),)),))), (loop, (names, (("if", (0, "below", 1), yes, ()),)))], False)
            loop, (names, ((word, test, yes, no),)) = self.set_at_once(draw)
            self.check([(loop, (names, (("if", test, yes[::-1] + (("add", 0, 1),), ()),))), ((names, test, yes + (("add", 1, 1),)), (names, (("if", test, yes, ()),)))], False)
        self.check([((TWO, SOME, (("add", 1, 1),)), (TWO, (("if", SOME, (("set", 0, 0),), ()),)))], False)
        self.check([((TWO, SOME, (("seen", (1, "from", 2)), ("set", 0, 0))), (TWO, (("if", SOME, (("seen", (1, "from", 1)), ("set", 0, 0)), ()),)))], False)

    def test_up_and_down(self):
        walking = (ONE, SOME, (("either", (1, 2), (("add", 0, 1),), (("less", 0),)),))
        uneven = (ONE, SOME, (("either", (1, 3), (("add", 0, 1),), (("less", 0),)),))
        cleared = (ONE, (("set", 0, 0),))
        self.check([(walking, cleared), (uneven, cleared)], True)
        self.check([(walking, (ONE, ())), (walking, (ONE, (("set", 0, 1),)))], False)
        # If it goes up twice as often as down, a run from x comes to 0 by the share (1/2) ** x.
        upward = (TWO, SOME, (("set", 1, 0), ("either", (2, 3), (("add", 0, 1),), (("less", 0),))))
        by_share = (TWO, (("if", SOME, (("set", 1, 0), ("sum", 1, COIN, 0), ("seen", (1, "below", 1)), ("set", 0, 0)), ()),))
        surely = (TWO, (("if", SOME, (("set", 1, 0), ("set", 0, 0)), ()),))
        self.check([(upward, by_share), (upward, surely)], True)
        self.check([((TWO, SOME, (("set", 1, 0), ("either", (1, 2), (("add", 0, 1),), (("less", 0),)))), by_share)], False)

    def test_too_much(self):
        tenfold = (("sum", 0, ("die", ((9, (1, 1)),)), 0),) * 9
        self.check_raises(TooMany(5000), keeps, (ONE, SOME, tenfold), (ONE, (("less", 0),)))
        self.check_raises(TooMany(5000), keeps, (ONE, SOME, (("less", 0),)), (ONE, tenfold))
        self.check_raises(Unfit(), keeps, (ONE, SOME, tenfold), (("y",), ()))


class LawsTest(KindsCase):
    """What [F8] tells of ended, inside and keeps."""

    def test_at_most_the_told_program(self):
        draw = drawn.drawing("at most")
        for _ in range(40):
            for kind in KeepsTest.KINDS:
                loop, told = kind(KeepsTest(), draw)
                start, end = [tuple(draw.randint(0, 3) for _ in loop[0]) for _ in range(2)]
                share = worth(share_of(told, start, end))
                for rounds in (0, 1, 2, 5, 12):
                    self.assertLessEqual(worth(ended(loop, start, rounds, end)), share)

    def test_by_more_rounds(self):
        draw = drawn.drawing("more rounds")
        for _ in range(300):
            many = draw.choice((1, 2))
            loop = drawn.loop(draw, many, draw.randint(1, 4), most_number=3, most_side=2, most_sides=2)
            start = tuple(draw.randint(0, 3) for _ in range(many))
            ends = [tuple(draw.randint(0, 4) for _ in range(many)) for _ in range(2)]
            try:
                chances = [worth(inside(loop, start, rounds)) for rounds in range(5)]
                shares = [[worth(ended(loop, start, rounds, end)) for rounds in range(5)] for end in ends]
            except TooMany:
                continue
            self.assertEqual(chances, sorted(chances, reverse=True))
            for row in shares:
                self.assertEqual(row, sorted(row))
            for rounds in range(5):
                self.assertLessEqual(chances[rounds] + sum(row[rounds] for row in {end: row for end, row in zip(ends, shares)}.values()), 1)

    def test_together_1_without_seen(self):
        draw = drawn.drawing("together")
        for _ in range(200):
            loop = drawn.loop(draw, 1, draw.randint(1, 4), words=("set", "less", "throw", "either", "if"), most_number=4, most_side=2)
            start, rounds = (draw.randint(0, 4),), draw.randint(0, 4)
            total = sum(worth(ended(loop, start, rounds, (end,))) for end in range(60))
            self.assertEqual(total + worth(inside(loop, start, rounds)), 1)

    def test_programs_that_are_alike_are_kept_alike(self):
        draw = drawn.drawing("kept alike")
        for _ in range(30):
            for kind in KeepsTest.KINDS:
                loop, (names, steps) = kind(KeepsTest(), draw)
                self.assertTrue(keeps(loop, (names, (("either", (1, 3), steps, steps), ("add", 0, 1), ("less", 0)))))


if __name__ == "__main__":
    unittest.main()
