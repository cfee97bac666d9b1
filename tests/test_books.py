"""[A3], [J1] to [J5] and [J7]: books, what their parts do, and whether their loops are told rightly."""

import unittest
from fractions import Fraction

from everystart import books
from everystart.alikeness import alike
from everystart.books import book_error, faults, gone, put_part, settled, uses
from everystart.ending import measure_error, verdict
from everystart.errors import BadBook, NoName, TooMany, Unfit
from everystart.figures import outcomes
from everystart.loops import loop_error, round_ahead
from everystart.programs import program_error, steps_error
from everystart.runs import share_of
from tests import drawn
from tests.drawn import pair, worth
from tests.kinds import KindsCase, same
from tests.runner import Runner, passes

COIN, HALF = ("die", ((0, (1, 2)), (1, (1, 2)))), ("till", (1, 2))
TWO, SOME, BY_X, NONE = ("x", "y"), (0, "from", 1), ((1, 1), (0, 1)), ((0, 1), (0, 1))
FLIP = ("program", "flip", (("throw", 1, COIN),))
POUR = ("loop", "pour", SOME, (("less", 0), ("do", "flip")), (("sum", 1, COIN, 0), ("set", 0, 0)), BY_X)
BOTH = ("program", "both", (("do", "pour"), ("add", 0, 2), ("do", "pour")))
WAIT = ("loop", "wait", SOME, (("either", (1, 2), (("set", 0, 0),), (("add", 1, 1),)),), (("if", SOME, (("throw", 1, HALF), ("set", 0, 0)), ()),), BY_X)
BOOK = (TWO, (FLIP, POUR, BOTH, WAIT))
LESS = ("loop", "less", SOME, (("less", 0), ("do", "flip")), (("set", 0, 0),), BY_X)
SLACK = ("loop", "slack", SOME, (("less", 0), ("do", "flip")), (("sum", 1, COIN, 0), ("set", 0, 0)), NONE)


class CallsTest(KindsCase):
    def test_by_place_and_by_name_twice(self):
        poured = (((((0, 0), (1, 4)), ((0, 1), (1, 2)), ((0, 2), (1, 4)))), (0, 1))
        self.check_calls(books, [
            ("book_error", ["value"], [BOOK], None),
            ("book_error", ["value"], [[TWO, ()]], "form"),
            ("put_part", ["book", "value"], [(TWO, (FLIP,)), POUR], (TWO, (FLIP, POUR))),
            ("settled", ["book", "name"], [BOOK, "flip"], (TWO, FLIP[2])),
            ("uses", ["book", "name"], [BOOK, "both"], ("flip", "pour")),
            ("faults", ["book"], [(TWO, (FLIP, LESS, SLACK))], (("less", "other", ((1, 0), (0, 0))), ("slack", "at most", None))),
            ("gone", ["book", "name", "start", "many"], [BOOK, "pour", (2, 0), 2], poured),
        ])

    def test_names_that_are_none(self):
        rows = drawn.values() + ["Flip", "flip ", "drain", ("flip",), ["flip"], ("do", "flip"), 0, BOOK, FLIP]
        for value in rows:
            for call in ((settled, BOOK, value), (uses, BOOK, value), (gone, BOOK, value, (0, 0), 1), (settled, (TWO, ()), value)):
                for _ in range(2):
                    with self.assertRaises(NoName) as caught:
                        call[0](*call[1:])
                    self.assertIs(caught.exception.given, value)


def deep(nest, inner=(("less", 0),)):
    for _ in range(nest):
        inner = (("if", SOME, inner, ()),)
    return inner


class BookErrorTest(KindsCase):
    def test_right_books(self):
        draw = drawn.drawing("right books")
        for _ in range(600):
            book = drawn.book(draw, draw.randint(1, 3), draw.choice((0, 1, 2, 3, 5, 7)), 6, tills=2)
            self.assertIsNone(book_error(book))
            for number in range(len(book[1])):
                self.assertIsNone(book_error((book[0], book[1][:number])))
        self.assertIsNone(book_error((("n",), ())))

    def test_faults_of_the_whole(self):
        rows = [
            (None, "form"), ((), "form"), ((TWO,), "form"), ((TWO, (), ()), "form"), ([TWO, ()], "form"), ((list(TWO), ()), "form"), ((TWO, []), "form"), (("xy", ()), "form"), ((TWO, None), "form"),
            (((), ()), ("names", "form")), ((("x",) * 4, ()), ("names", "form")), ((("x", "x"), ()), ("names", ("twice", 1))), ((("x", "do"), (FLIP,)), ("names", ("name", 1))), (((1,), ()), ("names", ("name", 0))),
            ((TWO, (None,)), ("part", 0, "form")), ((TWO, (FLIP, [FLIP])), ("part", 1, "form")), (((), (None,)), ("names", "form")),
        ]
        for value, told in rows:
            self.check_same(book_error(value), told)

    def test_twenty_parts_and_one_more(self):
        parts = tuple(("program", "p" + chr(97 + number), ()) for number in range(21))
        self.assertIsNone(book_error((TWO, parts[:20])))
        self.check_same(book_error((TWO, parts)), "form")
        self.check_same(book_error((TWO, (None,) * 21)), "form")
        self.check_same(book_error((TWO, (None,) * 20)), ("part", 0, "form"))
        self.check_same(put_part((TWO, parts[:19]), parts[19]), (TWO, parts[:20]))
        self.check_raises(TooMany(20), put_part, (TWO, parts[:20]), parts[20])
        self.check_raises(TooMany(20), put_part, (TWO, parts[:20]), None)

    PARTS = [
        (None, "form"), ((), "form"), (FLIP[:2], "form"), (FLIP + (BY_X,), "form"), (list(FLIP), "form"), (("loop",) + FLIP[1:], "form"), (("program",) + POUR[1:], "form"), (POUR[:5], "form"), (POUR + (1,), "form"),
        (("do", "flip"), "form"), (("Program", "a", ()), "form"), (("program", "do", ()), "name"), (("program", "", ()), "name"), (("program", "abcdefghi", ()), "name"), (("program", "A", ()), "name"),
        (("program", 5, ()), "name"), (("program", ["a"], ()), "name"), (("loop", "loop") + POUR[2:], "name"), (("program", "flip", ()), "taken"), (("loop", "flip") + POUR[2:], "taken"),
        (("program", "a", None), ("steps", ("form", ()))), (("program", "a", [("less", 0)]), ("steps", ("form", ()))), (("program", "a", (("less", 0),) * 41), ("steps", ("many", ()))),
        (("program", "a", (("do", "flip"),) * 41), ("steps", ("many", ()))), (("program", "a", (("do", "flip"), ("less", 2))), ("steps", ("counter", (1,)))), (("program", "a", (("do", "a"),)), ("steps", ("step", (0,)))),
        (("program", "a", (("do", "flip"), ("do", "none"))), ("steps", ("step", (1,)))), (("program", "a", (["do", "flip"],)), ("steps", ("step", (0,)))), (("program", "a", (("do",),)), ("steps", ("step", (0,)))),
        (("program", "a", (("less", "flip"),)), ("steps", ("counter", (0,)))), (("program", "a", (("seen", "flip"),)), ("steps", ("test", (0,)))), (("program", "a", ((None, "flip"),)), ("steps", ("step", (0,)))),
        (("program", "a", (("do", "flip", "flip"),)), ("steps", ("step", (0,)))), (("program", "a", (("if", SOME, (("do", "flip"),), ()),)), ("steps", ("step", (0, 0, 0)))), (("program", "a", deep(7)), ("steps", ("nest", (0, 0) * 6 + (0,)))),
        (("program", "a", (("either", (1, 2), (), (("do", "flip"),)),)), ("steps", ("step", (0, 1, 0)))), (("program", "a", (("do", ["flip"]),)), ("steps", ("step", (0,)))), (("program", "a", ("do", "flip")), ("steps", ("step", (0,)))),
        (("loop", "a", (0, "from", 5), (), (), BY_X), ("loop", ("program", ("steps", ("test", (0,)))))), (("loop", "a", SOME, None, (), BY_X), ("loop", ("program", ("steps", ("step", (0,)))))),
        (("loop", "a", SOME, (("do", "a"),), (), BY_X), ("loop", ("program", ("steps", ("step", (0, 0, 0)))))), (("loop", "a", SOME, (("do", "flip"),) * 40, (), BY_X), ("loop", ("program", ("steps", ("many", ()))))),
        (("loop", "a", SOME, deep(6), (), BY_X), ("loop", ("program", ("steps", ("nest", (0, 0) * 6 + (0,)))))), (("loop", "a", SOME, (("do", "flip"), ("set", 0, 21)), (), BY_X), ("loop", ("program", ("steps", ("number", (0, 0, 1)))))),
        (("loop", "a", SOME, (), None, BY_X), ("told", ("form", ()))), (("loop", "a", SOME, (), (("do", "a"),), BY_X), ("told", ("step", (0,)))), (("loop", "a", SOME, (), (("do", "flip"),) * 41, BY_X), ("told", ("many", ()))),
        (("loop", "a", SOME, (), (("do", "flip"), ("throw", 0, None)), BY_X), ("told", ("die", (1,)))), (("loop", "a", SOME, (), (("if", SOME, (), (("do", "flip"),)),), BY_X), ("told", ("step", (0, 1, 0)))),
        (("loop", "a", SOME, (), (), ((1, 1),)), ("measure", "form")), (("loop", "a", SOME, (), (), None), ("measure", "form")), (("loop", "a", SOME, (), (), ((1, 1), (-1, 1))), ("measure", ("weight", 1))),
        (("loop", "a", SOME, (), (), ((2, 2), (0, 1))), ("measure", ("weight", 0))),
        # Two faults at once: the first one told.
        (("program", "do", None), "name"), (("program", "flip", None), "taken"), (("loop", "do", None, None, None, None), "name"), (("loop", "flip", None, None, None, None), "taken"),
        (("loop", "a", SOME, (("do", "a"),), None, None), ("loop", ("program", ("steps", ("step", (0, 0, 0)))))), (("loop", "a", SOME, (), None, None), ("told", ("form", ()))),
        (("loop", "a", None, None, None, None), ("loop", ("program", ("steps", ("step", (0,)))))), (("program", "a", (("less", 2),) * 41), ("steps", ("many", ()))),
    ]

    def test_each_fault_of_a_part(self):
        for part, told in self.PARTS:
            with self.subTest(part=part):
                self.check_same(book_error((TWO, (FLIP, part))), ("part", 1, told))
                self.check_same(book_error((TWO, (FLIP, POUR, part, None))), ("part", 2, told))
                self.check_raises(BadBook(("part", 1, told)), put_part, (TWO, (FLIP,)), part)
        for part in (("program", "a", (("do", "flip"),) * 40), ("loop", "a", SOME, (("do", "flip"),) * 39, (("do", "flip"),) * 40, BY_X), ("program", "a", deep(6)), ("loop", "a", SOME, deep(5), deep(6), BY_X)):
            self.assertIsNone(book_error((TWO, (FLIP, part))))

    def test_parts_ahead_alone_are_done(self):
        self.check_same(book_error((TWO, (POUR, FLIP))), ("part", 0, ("loop", ("program", ("steps", ("step", (0, 0, 1)))))))
        self.check_same(book_error((TWO, (BOTH,) + BOOK[1])), ("part", 0, ("steps", ("step", (0,)))))
        self.check_same(book_error((TWO, (FLIP, POUR, WAIT, BOTH, FLIP))), ("part", 4, "taken"))

    def test_each_part_by_what_tells_of_it(self):
        """Faults of steps, loops and measures are those that [B2], [F2] and [F5] tell, ("do", name) being right steps."""
        draw = drawn.drawing("spoilt books")
        for _ in range(800):
            names, parts = drawn.book(draw, draw.randint(1, 3), draw.randint(1, 5), 4)
            place = draw.randrange(len(parts))
            part = list(parts[place])
            at = draw.randrange(2, len(part))
            part[at] = draw.choice((None, (), part[at][1:], part[at] + part[at], part[at] + (("less", 2),), part[at] + (("do", part[1]),), part[at] + (("set", 0, -1), None)))
            value = (names, parts[:place] + (tuple(part),) + parts[place + 1:])
            taken = [other[1] for other in parts[:place]]
            told = self.own(names, taken, part)
            self.check_same(book_error(value), None if told is None else ("part", place, told))

    def own(self, names, taken, part):
        right = [tuple(("add", 0, 1) if isinstance(step, tuple) and len(step) == 2 and step[0] == "do" and step[1] in taken else step for step in steps)
                 if isinstance(steps, tuple) else steps for steps in part[2:5]]
        if part[0] == "program":
            error = steps_error(len(names), right[0])
            return None if error is None else ("steps", error)
        loop = names, part[2], right[1]
        rows = (("loop", loop_error(loop)), ("told", steps_error(len(names), right[2])), ("measure", measure_error(loop, part[5])))
        return next(((word, error) for word, error in rows if error is not None), None)

    def test_values_of_all_kinds(self):
        for value in drawn.values():
            pairs = isinstance(value, tuple) and len(value) == 2 and all(isinstance(item, tuple) for item in value)
            self.check_same(book_error(value), ("names", "form") if pairs else "form")
            self.check_same(book_error((TWO, value)), None if same(value, ()) else "form" if not isinstance(value, tuple) or len(value) > 20 else ("part", 0, "form"))
            self.check_same(book_error((TWO, (FLIP, value))), ("part", 1, "form"))
            self.check_raises(BadBook(("part", 1, "form")), put_part, (TWO, (FLIP,)), value)
            told = None if value == "x" and isinstance(value, str) else "name"
            if value in ("form",) and isinstance(value, str):
                told = None
            self.check_same(book_error((TWO, (FLIP, ("program", value, ())))), None if told is None else ("part", 1, told))
            if not same(value, ()):
                self.assertEqual(book_error((TWO, (FLIP, ("program", "a", value))))[:2], ("part", 1))
            for place in (2, 5):
                self.assertEqual(book_error((TWO, (FLIP, POUR[:place] + (value,) + POUR[place + 1:])))[:2], ("part", 1))


class PutPartTest(KindsCase):
    def test_part_by_part(self):
        draw = drawn.drawing("put parts")
        for _ in range(100):
            names, parts = drawn.book(draw, draw.randint(1, 3), draw.randint(0, 6), 4)
            book = (names, ())
            for number, part in enumerate(parts):
                longer = put_part(book, part)
                self.check_same(book, (names, parts[:number]))
                self.check_raises(BadBook(("part", number + 1, "taken")), put_part, longer, part)
                book = longer
            self.check_same(book, (names, parts))


def own_size(book, steps, chosen):
    """Return how many steps there are, each ("do", name) counted with the steps of its part that chosen tells."""
    total = 0
    for step in steps:
        total += 1
        if step[0] in ("if", "either"):
            total += own_size(book, step[2], chosen) + own_size(book, step[3], chosen)
        elif step[0] == "do":
            total += own_size(book, chosen(part_of(book, step[1])), chosen)
    return total


def part_of(book, name):
    return [part for part in book[1] if part[1] == name][0]


def told_of(part):
    return part[4] if part[0] == "loop" else part[2]


def done_of(part):
    return part[3] if part[0] == "loop" else part[2]


def own_settled(book, steps):
    found = ()
    for step in steps:
        found += own_settled(book, told_of(part_of(book, step[1]))) if step[0] == "do" else (step,)
    return found


class SettledTest(KindsCase):
    def test_drawn_books(self):
        draw = drawn.drawing("settled")
        for _ in range(600):
            book = drawn.book(draw, draw.randint(1, 3), draw.randint(0, 7), 4, tills=1)
            for part in book[1]:
                if own_size(book, told_of(part), told_of) > 40:
                    self.check_raises(TooMany(40), settled, book, part[1])
                    continue
                found = settled(book, part[1])
                self.check_same(found, (book[0], own_settled(book, told_of(part))))
                self.assertIsNone(program_error(found))

    def test_just_forty_steps_and_more(self):
        some = ("program", "some", (("less", 0),) * 9)
        for number, more, right in ((4, 0, True), (3, 10, True), (4, 1, False), (3, 11, False), (0, 40, True)):
            steps = (("do", "some"),) * number + (("add", 1, 1),) * more
            book = (TWO, (some, ("program", "all", steps), ("loop", "told", SOME, (("do", "all"),) * 39, steps, BY_X), ("loop", "done", SOME, steps, (), BY_X)))
            for name in ("all", "told"):
                if right:
                    self.check_same(len(settled(book, name)[1]), number * 9 + more)
                else:
                    self.check_raises(TooMany(40), settled, book, name)
            self.check_same(settled(book, "done"), (TWO, ()))

    def test_ever_more_steps(self):
        """Twenty parts, each of which does the one ahead forty times over."""
        names = ["p" + chr(97 + number) for number in range(20)]
        parts = [("program", names[0], (("less", 0),))]
        for number in range(1, 20):
            parts.append(("program", names[number], (("do", names[number - 1]),) * 40))
        book = (TWO, tuple(parts))
        self.assertIsNone(book_error(book))
        for number in range(20):
            if number == 0:
                self.check_same(settled(book, names[0]), (TWO, (("less", 0),)))
            else:
                self.check_raises(TooMany(40), settled, book, names[number])
                self.check_raises(TooMany(40), gone, book, names[number], (0, 0), 1)
            self.check_same(uses(book, names[number]), tuple(names[:number]))
        self.check_raises(TooMany(40), faults, book)

    def test_parts_without_steps(self):
        """Each ("do", name) counts as a step, also of a part without steps."""
        empty = ("program", "none", ())
        for number in (39, 40):
            book = (TWO, (empty, ("program", "all", (("do", "none"),) * number), ("program", "more", (("do", "all"),))))
            self.check_same(settled(book, "all"), (TWO, ()))
            if number == 39:
                self.check_same(settled(book, "more"), (TWO, ()))
            else:
                self.check_raises(TooMany(40), settled, book, "more")


class UsesTest(KindsCase):
    def own(self, book, name):
        part = part_of(book, name)
        found = set()
        for step in done_of(part) + told_of(part):
            if step[0] == "do":
                found |= {step[1]} | self.own(book, step[1])
        return found

    def test_drawn_books(self):
        draw = drawn.drawing("uses")
        for _ in range(500):
            book = drawn.book(draw, 2, draw.randint(0, 7), 3, often=0.4)
            for part in book[1]:
                told = self.own(book, part[1])
                self.check_same(uses(book, part[1]), tuple(other[1] for other in book[1] if other[1] in told))

    def test_what_is_told_is_used_too(self):
        told = ("loop", "told", SOME, (), (("do", "flip"),), BY_X)
        done = ("loop", "done", SOME, (("do", "told"),), (), BY_X)
        book = (TWO, (FLIP, POUR, told, done))
        self.check_same([uses(book, name) for name in ("flip", "pour", "told", "done")], [(), ("flip",), ("flip",), ("flip", "told")])


class Rightly:
    """Draws books of two counters whose loops are known to be told rightly, or not, by an own argument."""

    def __init__(self, draw):
        self.draw, self.parts, self.words = draw, [], {}

    def name(self):
        return drawn.new_name(self.draw, [part[1] for part in self.parts])

    def put(self, word, steps, told, measure, test=SOME):
        """Put a loop of which the verdict is known to be word."""
        name = self.name()
        self.parts.append(("loop", name, test, steps, told, measure))
        self.words[name] = word

    def program(self, steps):
        name = self.name()
        self.parts.append(("program", name, steps))
        return "do", name

    def counted(self, word):
        """x counts down, y grows by a throw in each round, by a part that is done."""
        die = self.draw.choice((COIN, ("die", ((1, (1, 3)), (2, (2, 3)))), HALF))
        flip = self.program((("throw", 1, die),))
        told = (("sum", 1, die, 0), ("set", 0, 0))
        if word in ("other", "unsure"):
            told = self.draw.choice(((("set", 0, 0),), told + (("add", 1, 1),)))
        self.put(word, (("less", 0), flip), told, BY_X if word in ("does", "other") else NONE)

    def waited(self, word):
        share = drawn.chance(self.draw)
        told_share = share if word in ("does", "at most") else pair(worth(share) / 2)
        told = (("if", SOME, (("throw", 1, ("till", told_share)), ("set", 0, 0)), ()),)
        self.put(word, (("either", share, (("set", 0, 0),), (("add", 1, 1),)),), told, BY_X if word in ("does", "other") else NONE)

    def emptied(self, word):
        told = (("set", 0, 0),) if word in ("does", "at most") else (("set", 0, 1),)
        self.put(word, (("less", 0),), told, BY_X if word in ("does", "other") else NONE)

    def nested(self, word):
        """A loop that does a loop ahead, which sets x to nothing, and takes one of y in each round."""
        inner = [part[1] for part in self.parts if part[0] == "loop" and part[3:5] == ((("less", 0),), (("set", 0, 0),))]
        if not inner:
            return self.emptied(word)
        steps = (("set", 0, self.draw.randint(0, 3)), ("do", self.draw.choice(inner)), ("less", 1))
        told = (("if", (1, "from", 1), (("set", 0, 0), ("set", 1, 0 if word in ("does", "at most") else 1)), ()),)
        return self.put(word, steps, told, ((0, 1), (1, 1)) if word in ("does", "other") else NONE, (1, "from", 1))

    def book(self, words, many):
        for _ in range(many):
            self.draw.choice((self.counted, self.waited, self.emptied, self.nested))(self.draw.choice(words))
            if self.draw.random() < 0.4:
                steps = drawn.Steps(self.draw, 2, nest=2, sums=0, most_number=2, most_side=2, most_sides=2).steps(2)
                self.program(drawn.with_dos(self.draw, steps, [part[1] for part in self.parts], 0.5))
        return TWO, tuple(self.parts)


class FaultsTest(KindsCase):
    def check(self, book, words):
        """Check the faults of a book by the words that are known of its loops, and by the defs of [F]."""
        told = []
        for part in book[1]:
            if part[0] == "loop" and words[part[1]] != "does":
                loop = book[0], part[2], own_settled(book, part[3])
                program = settled(book, part[1])
                self.check_same(verdict(loop, program, part[5]), words[part[1]])
                parting = alike(program, round_ahead(loop, program))
                self.check_same(parting is None, words[part[1]] == "at most")
                told.append((part[1], words[part[1]], parting))
        self.check_same(faults(book), tuple(told))

    def test_books_told_rightly(self):
        draw = drawn.drawing("told rightly")
        for _ in range(120):
            rightly = Rightly(draw)
            book = rightly.book(("does",), draw.randint(0, 5))
            self.assertIsNone(book_error(book))
            if max([own_size(book, steps, told_of) for part in book[1] for steps in (told_of(part), done_of(part))] + [0]) > 40:
                self.check_raises(TooMany(40), faults, book)
            else:
                self.check_same(faults(book), ())

    def test_told_wrongly_and_without_a_weight(self):
        draw = drawn.drawing("told wrongly")
        for _ in range(200):
            rightly = Rightly(draw)
            book = rightly.book(("does", "at most", "other", "unsure"), draw.randint(1, 4))
            if max(own_size(book, steps, told_of) for part in book[1] for steps in (told_of(part), done_of(part))) <= 40:
                self.check(book, rightly.words)
                for number in range(len(book[1])):
                    names = [part[1] for part in book[1][:number]]
                    self.check_same(faults((TWO, book[1][:number])), tuple(fault for fault in faults(book) if fault[0] in names))

    def test_drawn_books(self):
        draw = drawn.drawing("faults")
        for _ in range(200):
            book = drawn.book(draw, draw.choice((1, 2)), draw.randint(0, 4), 2, often=0.3, most_number=3, most_test=2, most_side=2, most_sides=2, sums=0)
            words = {}
            try:
                for part in book[1]:
                    program = settled(book, part[1])
                    if part[0] == "loop":
                        if own_size(book, part[3], told_of) > 40:
                            raise TooMany(40)
                        words[part[1]] = verdict((book[0], part[2], own_settled(book, part[3])), program, part[5])
            except TooMany:
                self.check_raises(TooMany(40), faults, book)
                continue
            self.check(book, words)

    def test_too_many_steps_of_any_part(self):
        """The size of what is told of each part, and of each loop's steps, is looked at ahead of all verdicts."""
        some, heavy = ("program", "some", (("less", 0),) * 19), ("loop", "heavy", SOME, (("sum", 0, ("die", ((9, (1, 1)),)), 0),) * 9, (("less", 0),), BY_X)
        self.check_raises(TooMany(5000), faults, (TWO, (some, heavy)))
        rows = [
            (("program", "a", (("do", "some"),) * 3), True), (("program", "a", (("do", "some"),) * 2), False), (("loop", "a", SOME, (), (("do", "some"),) * 3, BY_X), True),
            (("loop", "a", SOME, (("do", "some"),) * 3, (), BY_X), True), (("loop", "a", SOME, (("do", "some"),) * 2 + (("set", 0, 0),), (("set", 0, 0),), BY_X), True),
        ]
        for part, many in rows:
            self.check_raises(TooMany(40 if many else 5000), faults, (TWO, (some, heavy, part)))
        just = ("loop", "a", SOME, (("do", "some"),) * 2, (("set", 0, 0),), BY_X)
        self.check_same(faults((TWO, (("program", "some", (("set", 0, 0),) * 19), just))), ())


class OwnWalk:
    """An own running through the parts, all stands together; rounds are counted anew at each coming to a loop."""

    def __init__(self, book, many):
        self.book, self.many, self.runner = book, many, Runner(bound=False)

    def part(self, name, stands):
        """Return what goes through the part with this name, and what is held up."""
        part = part_of(self.book, name)
        if part[0] == "program":
            return self.steps(stands, part[2])
        done, held = {}, Fraction(0)
        for rounds in range(self.many + 1):
            within = {}
            for stand, share in stands.items():
                where = within if passes(stand, part[2]) else done
                where[stand] = where.get(stand, 0) + share
            if rounds == self.many:
                return done, held + sum(within.values(), Fraction(0))
            stands, lost = self.steps(within, part[3])
            held += lost

    def steps(self, stands, steps):
        held = Fraction(0)
        for step in steps:
            if step[0] == "do":
                stands, lost = self.part(step[1], stands)
                held += lost
            else:
                stands = self.runner.step(stands, step)
        return stands, held


class GoneTest(KindsCase):
    def check(self, book, name, start, many):
        ends, held = OwnWalk(book, many).part(name, {start: Fraction(1)})
        self.check_same(gone(book, name, start, many), (tuple((end, pair(ends[end])) for end in sorted(ends)), pair(held)))

    def test_drawn_books(self):
        draw = drawn.drawing("gone")
        walked = 0
        for _ in range(700):
            many = draw.choice((1, 2, 3))
            words = ("set", "set", "less", "throw", "either", "if", "seen")
            book = drawn.book(draw, many, draw.randint(0, 7), 2, often=0.4, most_number=3, most_side=2, most_sides=2, words=words)
            start, rounds = tuple(draw.randint(0, 3) for _ in range(many)), draw.randint(0, 2)
            for part in book[1][-3:]:
                if own_size(book, done_of(part), done_of) > 40:
                    self.check_raises(TooMany(40), gone, book, part[1], start, rounds)
                else:
                    walked += 1
                    self.check(book, part[1], start, rounds)
        self.assertGreater(walked, 800)

    def test_right_books_with_many_rounds(self):
        draw = drawn.drawing("gone right")
        for _ in range(150):
            book = Rightly(draw).book(("does", "at most", "other"), draw.randint(1, 3))
            for part in book[1]:
                if "'till'" in repr([done_of(part) for part in book[1]]) or own_size(book, done_of(part), done_of) > 40:
                    continue
                self.check(book, part[1], (draw.randint(0, 3), draw.randint(0, 3)), draw.choice((0, 1, 2, 3)))

    def test_rounds_are_counted_anew(self):
        """The inner loop is come to in each round of the outer one."""
        inner = ("loop", "inner", SOME, (("less", 0),), (("set", 0, 0),), BY_X)
        outer = ("loop", "outer", (1, "from", 1), (("less", 1), ("set", 0, 3), ("do", "inner")), (("set", 0, 0), ("set", 1, 0)), ((0, 1), (1, 1)))
        twice = ("program", "twice", (("do", "outer"), ("set", 1, 2), ("do", "outer"), ("do", "inner")))
        book = (TWO, (inner, outer, twice))
        self.check_same(gone(book, "twice", (0, 3), 3), ((((0, 0), (1, 1)),), (0, 1)))
        self.check_same(gone(book, "twice", (0, 4), 3), ((), (1, 1)))
        self.check_same(gone(book, "twice", (0, 3), 2), ((), (1, 1)))
        self.check_same(gone(book, "outer", (4, 0), 0), ((((4, 0), (1, 1)),), (0, 1)))
        self.check_same(gone(book, "inner", (4, 0), 3), ((), (1, 1)))

    def test_loops_in_loops_in_loops(self):
        """Loops, each of which does the one ahead in each of its rounds: a coin leads out of each."""
        parts = [("loop", "pa", SOME, (("throw", 1, COIN), ("if", (1, "from", 1), (("set", 0, 0),), ()), ("set", 1, 0)), (), BY_X)]
        for number in range(1, 16):
            parts.append(("loop", "p" + chr(97 + number), SOME, (("do", parts[-1][1]), ("either", (1, 2), (("set", 0, 1),), ())), (), BY_X))
        book = (TWO, tuple(parts))
        for number, rounds in ((0, 12), (1, 12), (2, 12), (3, 12), (5, 4), (12, 2)):
            ends, held = gone(book, parts[number][1], (1, 0), rounds)
            through = 1 - Fraction(1, 2 ** rounds)
            for _ in range(number):
                # Each round leads through the loop ahead, and then by a coin to the end or to a round more.
                through = sum((through * Fraction(1, 2)) ** passed for passed in range(1, rounds + 1))
            self.check_same((ends, held), ((((0, 0), pair(through)),), pair(1 - through)))

    def test_tills(self):
        """Tills in what is done are unfit, in what is told alone they are not; a part that is not done does not matter."""
        till = ("program", "till", (("either", (1, 2), (), (("throw", 0, HALF),)),))
        done = ("program", "done", (("less", 0), ("do", "till")))
        told = ("loop", "told", SOME, (("less", 0),), (("do", "till"), ("throw", 0, HALF)), BY_X)
        user = ("loop", "user", (1, "from", 1), (("do", "told"), ("set", 1, 0)), (("do", "done"),), BY_X)
        book = (TWO, (till, done, told, user))
        for name in ("till", "done"):
            self.check_raises(Unfit(), gone, book, name, (0, 0), 1)
        self.check_same(gone(book, "told", (1, 0), 1), ((((0, 0), (1, 1)),), (0, 1)))
        self.check_same(gone(book, "user", (1, 1), 1), ((((0, 0), (1, 1)),), (0, 1)))
        again = ("loop", "again", SOME, (("do", "user"), ("do", "done")), (), BY_X)
        self.check_raises(Unfit(), gone, (TWO, book[1] + (again,)), "again", (0, 0), 0)
        many = ("program", "many", (("do", "till"),) * 40)
        self.check_raises(Unfit(), gone, (TWO, (till, many)), "many", (0, 0), 1)

    def test_too_many_steps(self):
        """What is told is not looked at, what is done is."""
        some = ("loop", "some", SOME, (("less", 0),), (("set", 0, 0),) * 40, BY_X)
        for number in (20, 21):
            book = (TWO, (some, ("program", "all", (("do", "some"),) * number)))
            if number == 20:
                self.check_same(gone(book, "all", (2, 0), 12), ((((0, 0), (1, 1)),), (0, 1)))
            else:
                self.check_raises(TooMany(40), gone, book, "all", (2, 0), 12)
        self.check_same(gone((TWO, (some,)), "some", (1, 0), 1), ((((0, 0), (1, 1)),), (0, 1)))

    def test_what_is_dropped_is_in_neither(self):
        part = ("loop", "a", SOME, (("either", (1, 2), (("set", 0, 0),), (("seen", (1, "from", 1)),)), ("less", 1)), (), BY_X)
        self.check_same(gone((TWO, (part,)), "a", (1, 0), 3), ((((0, 0), (1, 2)),), (0, 1)))
        self.check_same(gone((TWO, (part,)), "a", (1, 1), 2), ((((0, 0), (3, 4)),), (0, 1)))
        self.check_same(gone((TWO, (part,)), "a", (1, 5), 2), ((((0, 3), (1, 4)), ((0, 4), (1, 2))), (1, 4)))

    def test_small_standings_are_never_too_many(self):
        """At most 11 numbers of two counters, or 5 of three, however many rounds and loops there are."""
        tens = ("die", tuple((number, (1, 6)) for number in (0, 1, 2, 4, 5, 9)))
        spread = ("program", "spread", (("set", 0, 0), ("set", 1, 1), ("throw", 0, tens), ("throw", 1, tens)))
        inner = ("loop", "inner", SOME, (("either", (1, 3), (("less", 0),), (("less", 1),)), ("less", 0)), (), BY_X)
        outer = ("loop", "outer", (1, "from", 1), (("do", "spread"), ("do", "inner")), (), BY_X)
        for rounds in (0, 1, 4, 12):
            self.check((TWO, (spread, inner, outer)), "outer", (10, 10), rounds)
        quads = ("die", tuple((number, (1, 5)) for number in range(5)))
        steps = tuple(step for counter in range(3) for step in (("set", counter, 0), ("throw", counter, quads)))
        book = (("x", "y", "z"), (("program", "a", steps), ("loop", "b", (2, "below", 4), (("do", "a"), ("less", 0)), (), ((0, 1),) * 3)))
        self.check(book, "b", (0, 0, 0), 6)

    def test_too_many_standings(self):
        die = ("die", tuple((number, (1, 6)) for number in range(6)))
        grow = ("program", "grow", tuple(("throw", counter, die) for counter in (0, 1, 2) * 4))
        self.check_raises(TooMany(2000), gone, (("x", "y", "z"), (grow,)), "grow", (0, 0, 0), 1)
        again = ("loop", "again", SOME, (("do", "grow"),), (), ((0, 1),) * 3)
        self.check_raises(TooMany(2000), gone, (("x", "y", "z"), (grow, again)), "again", (1, 0, 0), 1)

    def test_many_rounds_far_out(self):
        book = (TWO, (FLIP, POUR, BOTH))
        self.check(book, "both", (12, 20), 12)
        self.check(book, "both", (13, 20), 12)
        self.check(book, "pour", (20, 0), 12)


class LawsTest(KindsCase):
    """What [J7] tells."""

    def test_between_gone_and_held(self):
        """With no verdict "other" or "unsure" the shares of the settled program lie between outcomes, and these with held."""
        draw = drawn.drawing("between")
        for _ in range(120):
            book = Rightly(draw).book(("does", "at most"), draw.randint(1, 3))
            if "'till'" in repr([done_of(part) for part in book[1]]):
                continue
            part = book[1][-1]
            start = (draw.randint(0, 3), draw.randint(0, 3))
            if max(own_size(book, steps, chosen) for steps, chosen in ((told_of(part), told_of), (done_of(part), done_of))) > 40:
                continue
            program, previous = settled(book, part[1]), None
            for rounds in (0, 1, 2, 4):
                ends, held = gone(book, part[1], start, rounds)
                shares, held = {end: worth(share) for end, share in ends}, worth(held)
                for end in list(shares)[:4] + [(0, draw.randint(0, 5)), start]:
                    share = worth(share_of(program, start, end))
                    self.assertTrue(shares.get(end, 0) <= share <= shares.get(end, 0) + held)
                if previous is not None:
                    self.assertLessEqual(held, previous[1])
                    self.assertTrue(all(share <= shares[end] for end, share in previous[0].items()))
                previous = shares, held

    def test_right_books_do_what_is_told(self):
        book = (TWO, (FLIP, POUR, BOTH, WAIT))
        self.check_same(faults(book), ())
        for name, start, rounds in (("pour", (5, 1), 5), ("both", (4, 0), 6), ("pour", (0, 0), 0)):
            ends, held = gone(book, name, start, rounds)
            self.check_same(held, (0, 1))
            for end, share in ends:
                self.check_same(share_of(settled(book, name), start, end), share)
        self.check_same([gone(book, "wait", (1, 0), rounds)[1] for rounds in (1, 4, 12)], [(1, 2), (1, 16), (1, 4096)])

    def test_where_no_loop_is_used(self):
        draw = drawn.drawing("no loop")
        for _ in range(200):
            many = draw.choice((1, 2))
            names, parts = drawn.book(draw, many, draw.randint(1, 5), 3, often=0.4, most_number=4, most_side=3, most_sides=3, sums=0)
            parts = tuple(("program", part[1], told_of(part)) for part in parts)
            start = tuple(draw.randint(0, 3) for _ in range(many))
            for part in parts:
                try:
                    told = outcomes(settled((names, parts), part[1]), start)
                except TooMany:
                    continue
                self.check_same(gone((names, parts), part[1], start, draw.randint(0, 12)), (told, (0, 1)))

    def test_parts_behind_do_not_matter(self):
        draw = drawn.drawing("parts behind")
        for _ in range(150):
            names, parts = drawn.book(draw, 2, draw.randint(2, 6), 2, often=0.4, words=("set", "less", "either", "if"))
            place = draw.randrange(len(parts))
            name, fewer = parts[place][1], (names, parts[:place + 1])
            self.check_same(uses((names, parts), name), uses(fewer, name))
            self.check_same(self.or_error(settled, (names, parts), name), self.or_error(settled, fewer, name))
            self.check_same(self.or_error(gone, (names, parts), name, (1, 2), 2), self.or_error(gone, fewer, name, (1, 2), 2))

    def or_error(self, call, *arguments):
        try:
            return call(*arguments)
        except TooMany as error:
            return "too many", error.limit


if __name__ == "__main__":
    unittest.main()
