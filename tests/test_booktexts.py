"""[A3], [J6] and [J7]: the texts of books."""

import unittest

from everystart import booktexts
from everystart.books import book_error
from everystart.booktexts import book_text, read_book
from everystart.errors import BadText
from everystart.fractions import fraction_text
from everystart.programtexts import steps_text
from tests import drawn
from tests.kinds import KindsCase

COIN = ("die", ((0, (1, 2)), (1, (1, 2))))
SOME, BY_X = (0, "from", 1), ((1, 1), (0, 1))
FLIP = ("program", "flip", (("throw", 1, COIN),))
POUR = ("loop", "pour", SOME, (("less", 0), ("do", "flip")), (("sum", 1, COIN, 0), ("set", 0, 0)), BY_X)
BOOK = (("x", "y"), (FLIP, POUR))
TEXT = "x, y:\nprogram flip {y += die 1/2 0, 1/2 1}\nloop pour while x >= 1 {x -= 1; do flip} as {y += die 1/2 0, 1/2 1 by x; x := 0} by 1, 0"
SIGNS = "abdoxyz 019,;:{}<>=+-/\n"


def own_text(book):
    """Return the text of book, put together as [J6] tells it."""
    names, parts = book

    def steps(row):
        return "; ".join("do " + step[1] if step[0] == "do" else steps_text(names, (step,)) for step in row) or "skip"

    lines = [", ".join(names) + ":"]
    for part in parts:
        if part[0] == "program":
            lines.append("program {} {{{}}}".format(part[1], steps(part[2])))
        else:
            counter, word, number = part[2]
            test = "{} {} {}".format(names[counter], "<" if word == "below" else ">=", number)
            lines.append("loop {} while {} {{{}}} as {{{}}} by {}".format(part[1], test, steps(part[3]), steps(part[4]), ", ".join(map(fraction_text, part[5]))))
    return "\n".join(lines)


class CallsTest(KindsCase):
    def test_by_place_and_by_name_twice(self):
        self.check_calls(booktexts, [("book_text", ["book"], [BOOK], TEXT), ("read_book", ["value"], [TEXT], BOOK)])

    def test_values_of_all_kinds(self):
        for value in drawn.values() + [BOOK, [TEXT], (TEXT,), TEXT.encode()]:
            self.check_raises(BadText(), read_book, value)


class TextTest(KindsCase):
    def book(self, draw):
        great = draw.random() < 0.1
        book = drawn.book(draw, draw.randint(1, 3), draw.choice((0, 1, 2, 3, 5)), draw.choice((1, 3, 6)), tills=2, sums=2)
        names = tuple(drawn.new_name(draw, ()) for _ in book[0])
        if len(set(names)) < len(names):
            names = book[0]
        if great and book[1]:
            book = (book[0], book[1] + (("program", drawn.new_name(draw, [part[1] for part in book[1]]), (("throw", 0, ("till", (1, 10 ** 399))),)),))
        return names, book[1]

    def test_there_and_back(self):
        draw = drawn.drawing("book texts")
        told = {}
        for _ in range(2500):
            book = self.book(draw)
            text = book_text(book)
            self.check_same(text, own_text(book))
            self.check_same(read_book(text), book)
            self.assertTrue(told.setdefault(text, book) == book)

    def test_one_sign_changed(self):
        """A text that is read is the text of what was read; a sign more, less or another one is seldom another text."""
        draw = drawn.drawing("changed book texts")
        read = 0
        for _ in range(6000):
            text = book_text(drawn.book(draw, draw.randint(1, 2), draw.randint(0, 3), 3, tills=1))
            place = draw.randrange(len(text))
            how = draw.choice(("in", "out", "exchange", "double", "swap"))
            if how == "in":
                text = text[:place] + draw.choice(SIGNS) + text[place:]
            elif how == "out":
                text = text[:place] + text[place + 1:]
            elif how == "exchange":
                text = text[:place] + draw.choice(SIGNS) + text[place + 1:]
            elif how == "double":
                text = text[:place] + text[place] + text[place:]
            else:
                text = text[:place] + text[place:place + 2][::-1] + text[place + 2:]
            read += self.check_read(text)
        self.assertLess(read, 3000)

    def check_read(self, text):
        """Check that text is read just if it is the text of a book; return whether it is."""
        try:
            book = read_book(text)
        except BadText:
            return False
        self.assertIsNone(book_error(book))
        self.check_same(own_text(book), text)
        return True

    def test_a_line_changed(self):
        draw = drawn.drawing("changed lines")
        for _ in range(1200):
            names, parts = drawn.book(draw, 2, draw.randint(1, 5), 3)
            lines = own_text((names, parts)).split("\n")
            place = draw.randrange(len(lines))
            how = draw.choice(("out", "double", "move"))
            moved = draw.randrange(len(lines))
            if how == "move":
                line = lines.pop(place)
                lines.insert(moved, line)
                order = list(parts)
                if 0 not in (place, moved):
                    order.insert(moved - 1, order.pop(place - 1))
                told = tuple(order) if 0 not in (place, moved) or place == moved else None
            elif how == "out":
                del lines[place]
                told = parts[:place - 1] + parts[place:] if place else None
            else:
                lines.insert(place, lines[place])
                told = None
            if told is not None and book_error((names, told)) is None:
                self.check_same(read_book("\n".join(lines)), (names, told))
            else:
                self.check_raises(BadText(), read_book, "\n".join(lines))

    def test_by_hand(self):
        right = [
            ("n:", (("n",), ())), ("a, b, c:", (("a", "b", "c"), ())), ("n:\nprogram a {skip}", (("n",), (("program", "a", ()),))), ("n:\nprogram a {skip}\nprogram b {do a; do a}", (("n",), (("program", "a", ()), ("program", "b", (("do", "a"),) * 2)))),
            ("n:\nloop a while n < 4 {skip} as {skip} by 0", (("n",), (("loop", "a", (0, "below", 4), (), (), ((0, 1),)),))), ("n:\nprogram n {n := 0}", (("n",), (("program", "n", (("set", 0, 0),)),))),
            ("n:\nloop a while n >= 1 {if n < 2 {n += 1} else {skip}} as {either 1/2 {n -= 1} or {seen n < 3}} by 7/3",
             (("n",), (("loop", "a", (0, "from", 1), (("if", (0, "below", 2), (("add", 0, 1),), ()),), (("either", (1, 2), (("less", 0),), (("seen", (0, "below", 3)),)),), ((7, 3),)),))),
        ]
        for text, book in right:
            self.check_same(read_book(text), book)
            self.check_same(book_text(book), text)
        wrong = [
            "", "n", ":", "n: ", "n:\n", "\nn:", " n:", "n :", "n,m:", "n, n:", "n, m, k, l:", "n: skip", "n:\nprogram a {do a}", "n: \nprogram a {skip}", "n:\n\nprogram a {skip}", "n:\nprogram a {skip}\n", "n:\nprogram a {skip} ",
            "n:\nprogram a {}", "n:\nprogram a { skip}", "n:\nprogram a {skip }", "n:\nprogram a{skip}", "n:\nprogram  a {skip}", "n:\nprogram {skip}", "n:\nprogram do {skip}", "n:\nprogram abcdefghi {skip}", "n:\nprogram a {skip; skip}",
            "n:\nprogram a {skip}\nprogram a {skip}", "n:\nprogram a {skip}\nprogram b {do b}", "n:\nprogram a {skip}\nprogram b {do  a}", "n:\nprogram a {skip}\nprogram b {do}", "n:\nprogram a {skip}\nprogram b {if n < 1 {do a} else {skip}}",
            "n:\nprogram b {do a}\nprogram a {skip}", "n:\nprogram a {m := 0}", "n:\nprogram a {n := 21}", "n:\nprogram a {n := 00}", "n:\nprogram a {n := 1/1}", "n:\nprogram a {n := -1}", "n:\nprogram a {skip},", "n:\nProgram a {skip}",
            "n:\nloop a while n < 5 {skip} as {skip} by 0", "n:\nloop a while n < 4 {skip} as {skip}", "n:\nloop a while n < 4 {skip} as {skip} by ", "n:\nloop a while n < 4 {skip} as {skip} by 0, 0", "n, m:\nloop a while n < 4 {skip} as {skip} by 0",
            "n:\nloop a while n < 4 {skip} as {skip} by -1", "n:\nloop a while n < 4 {skip} as {skip} by 2/4", "n:\nloop a while n < 4 {skip} as {skip} by 0/1", "n:\nloop a while n < 4 {skip} as {skip} by 01", "n:\nloop a while n < 4 {do a} as {skip} by 0",
            "n:\nloop a while n < 4 {skip} as {do a} by 0", "n:\nloop a while n > 4 {skip} as {skip} by 0", "n:\nloop a while n <= 4 {skip} as {skip} by 0", "n:\nloop a while 0 < 4 {skip} as {skip} by 0", "n:\nloop a {skip} as {skip} by 0",
            "n:\nprogram a {if n < 1 {skip} else {skip}", "n:\nprogram a {n += die 1 0}}", "n:\nprogram a {n += die 1/2 0, 1/2 0}", "n:\rprogram a {skip}", "n:\nprogram a {skip}\n\n", "n:\nloop while n < 4 {skip} as {skip} by 0", TEXT + ", 0", TEXT + "\n" + TEXT,
        ]
        for text in wrong:
            with self.subTest(text=text):
                self.check_raises(BadText(), read_book, text)

    def test_many_parts_and_steps(self):
        head, names = "n:", ["p" + chr(97 + number) for number in range(21)]
        texts = ["\nprogram " + name + " {skip}" for name in names]
        self.check_same(len(read_book(head + "".join(texts[:20]))[1]), 20)
        self.check_raises(BadText(), read_book, head + "".join(texts))
        for number, right in ((40, True), (41, False)):
            text = "n:\nprogram a {skip}\nprogram b {" + "; ".join(["do a"] * number) + "}"
            if right:
                self.check_same(read_book(text)[1][1][2], (("do", "a"),) * 40)
            else:
                self.check_raises(BadText(), read_book, text)
        for number in (6, 7, 300):
            text = "n:\nprogram a {" + "if n < 1 {" * number + "skip" + "} else {skip}" * number + "}"
            self.check_read(text) if number == 6 else self.check_raises(BadText(), read_book, text)
        self.check_same(read_book("n:\nprogram a {" + "if n < 1 {" * 6 + "skip" + "} else {skip}" * 6 + "}")[1][0][1], "a")
        self.check_raises(BadText(), read_book, "n:\nloop a while n < 1 {" + "if n < 1 {" * 6 + "skip" + "} else {skip}" * 6 + "} as {skip} by 1")

    def test_great_integers(self):
        great = "9" * 400
        self.check_same(read_book("n:\nloop a while n < 1 {skip} as {skip} by " + great)[1][0][5], ((10 ** 400 - 1, 1),))
        self.check_same(read_book("n:\nprogram a {n += till 1/" + great + "}")[1][0][2], (("throw", 0, ("till", (1, 10 ** 400 - 1))),))
        for text in ("loop a while n < 1 {skip} as {skip} by 9" + great, "loop a while n < 1 {skip} as {skip} by 1/9" + great, "program a {n += till 1/9" + great + "}", "program a {n := 9" + great + "}", "program a {n := 0" + great + "}"):
            self.check_raises(BadText(), read_book, "n:\n" + text)


if __name__ == "__main__":
    unittest.main()
