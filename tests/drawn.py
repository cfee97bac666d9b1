"""What the tests draw: dice, programs, polynomials and the like, the same at each run."""

import random
from fractions import Fraction

from everystart import errors


def chance(draw, most=6):
    """Return a fraction above 0 and below 1."""
    below = draw.randint(2, most)
    return pair(Fraction(draw.randint(1, below - 1), below))


def pair(worth):
    """Return the pair that the package has for a Fraction or an integer."""
    worth = Fraction(worth)
    return worth.numerator, worth.denominator


def worth(fraction):
    """Return the Fraction of a pair."""
    return Fraction(fraction[0], fraction[1])


def sided(draw, most_sides=6, most_number=9):
    """Return a die with sides."""
    many = draw.randint(1, min(most_sides, most_number + 1))
    numbers = sorted(draw.sample(range(most_number + 1), many))
    weights = [draw.randint(1, 5) for _ in numbers]
    return "die", tuple((number, pair(Fraction(weight, sum(weights)))) for number, weight in zip(numbers, weights))


def die(draw, tills=0.3, most_sides=6, most_number=9):
    """Return a die of either kind."""
    if draw.random() < tills:
        return "till", chance(draw)
    return sided(draw, most_sides, most_number)


def test_of(draw, many, most=4):
    """Return a test of many counters."""
    return draw.randrange(many), draw.choice(("below", "from")), draw.randint(1, most)


class Steps:
    """Draws steps, by what is allowed to stand in them."""

    def __init__(self, draw, many, **more):
        self.draw, self.many = draw, many
        self.nest = more.get("nest", 6)
        self.tills = more.get("tills", 0)
        self.sums = more.get("sums", 1)
        self.most_number = more.get("most_number", 20)
        self.most_test = more.get("most_test", 4)
        self.most_sides = more.get("most_sides", 6)
        self.most_side = more.get("most_side", 9)
        self.hits = more.get("hits")
        self.words = more.get("words", ("set", "add", "less", "throw", "sum", "if", "either", "seen"))

    def steps(self, nodes, nest=0):
        """Return a tuple of steps, with those within at most so many as nodes tells."""
        found = []
        while nodes > 0 and (nest == 0 or self.draw.random() < 0.7):
            step, used = self.step(nodes, nest)
            found.append(step)
            nodes -= used
        return tuple(found)

    def counter(self):
        return self.draw.randrange(self.many)

    def die(self):
        if self.tills > 0 and self.draw.random() < 0.5:
            self.tills -= 1
            return "till", self.draw.choice(self.hits) if self.hits else chance(self.draw)
        return sided(self.draw, self.most_sides, self.most_side)

    def step(self, nodes, nest):
        """Return a step, and how many it is with those within."""
        word = self.draw.choice(self.words)
        if word == "sum":
            if self.sums == 0:
                return self.step(nodes, nest)
            self.sums -= 1
            return ("sum", self.counter(), self.die(), self.counter()), 1
        if word in ("if", "either"):
            return self.parting(word, nodes, nest)
        if word == "set":
            return ("set", self.counter(), self.draw.randint(0, self.most_number)), 1
        if word == "add":
            return ("add", self.counter(), self.draw.randint(1, self.most_number)), 1
        if word == "less":
            return ("less", self.counter()), 1
        if word == "throw":
            return ("throw", self.counter(), self.die()), 1
        return ("seen", test_of(self.draw, self.many, self.most_test)), 1

    def parting(self, word, nodes, nest):
        if nest >= self.nest or nodes < 2:
            return ("less", self.counter()), 1
        yes = self.steps(self.draw.randint(0, nodes - 1), nest + 1)
        no = self.steps(nodes - 1 - size(yes), nest + 1)
        chooser = test_of(self.draw, self.many, self.most_test) if word == "if" else chance(self.draw)
        return (word, chooser, yes, no), 1 + size(yes) + size(no)


def size(steps):
    """Return how many steps there are, those within counted."""
    return sum(1 + (size(step[2]) + size(step[3]) if step[0] in ("if", "either") else 0) for step in steps)


NAMES = ("x", "y", "z")


def program(draw, many, nodes, **more):
    """Return a program of many counters."""
    return NAMES[:many], Steps(draw, many, **more).steps(nodes)


def loop(draw, many, nodes, **more):
    """Return a loop of many counters, with at most so many steps in a round."""
    more.setdefault("nest", 5)
    return NAMES[:many], test_of(draw, many, more.get("most_test", 4)), Steps(draw, many, **more).steps(nodes)


def measure(draw, many):
    """Return a measure of many counters."""
    return tuple(pair(Fraction(draw.randint(0, 5), draw.randint(1, 3))) for _ in range(many))


WORDS = ("as", "by", "die", "do", "either", "else", "if", "loop", "or", "program", "seen", "skip", "till", "while")


def new_name(draw, taken):
    """Return a name that is none of those taken."""
    while True:
        name = "".join(draw.choice("abcdefghijklmnopqrstuvwxyz") for _ in range(draw.choice((1, 2, 4, 8))))
        if name not in WORDS and name not in taken:
            return name


def with_dos(draw, steps, taken, often):
    """Return steps with some pairs that do a part with one of the names taken put in."""
    found = list(steps)
    while taken and draw.random() < often:
        found.insert(draw.randint(0, len(found)), ("do", draw.choice(taken)))
    return tuple(found)


def book(draw, many, parts, nodes, often=0.5, **more):
    """Return a book of so many parts, with at most so many steps in each row that stands in them."""
    taken, found = [], []
    for _ in range(parts):
        name = new_name(draw, taken)
        steps, told = [with_dos(draw, Steps(draw, many, nest=5, **more).steps(draw.randint(0, nodes)), taken, often) for _ in range(2)]
        if draw.random() < 0.5:
            found.append(("program", name, steps))
        else:
            found.append(("loop", name, test_of(draw, many, more.get("most_test", 4)), steps, told, measure(draw, many)))
        taken.append(name)
    return NAMES[:many], tuple(found)


def powers(draw, n, most):
    return tuple(draw.randint(0, most) for _ in range(n))


def fraction(draw, great=5):
    """Return a fraction that is not 0."""
    return pair(Fraction(draw.choice((-1, 1)) * draw.randint(1, great), draw.randint(1, great)))


def polynomial(draw, n, terms, most, great=5):
    """Return a polynomial of n names with at most so many terms."""
    return tuple(sorted({powers(draw, n, most): fraction(draw, great) for _ in range(terms)}.items()))


def divisor(draw, n, terms, most, great=5):
    """Return a divisor of n names, n from 1 on."""
    zero = (0,) * n
    found = {zero: (1, 1)}
    while len(found) < 2:
        for _ in range(terms):
            found.setdefault(powers(draw, n, most), fraction(draw, great))
    return tuple(sorted(found.items()))


def form(draw, n, parts, divisors, most, terms=3):
    """Return a closed form of n names."""
    found = []
    for _ in range(draw.randint(0, parts)):
        above = polynomial(draw, n, draw.randint(1, terms), most)
        many = draw.randint(0, divisors) if n else 0
        found.append((above, tuple(sorted(divisor(draw, n, draw.randint(1, 2), most) for _ in range(many)))))
    return tuple(found)


def drawing(seed):
    """Return a source of what seems drawn; the same seed gives the same again."""
    return random.Random(seed)


def values():
    """Return values of all kinds, none of which is a right one of any kind."""
    deep = ()
    for _ in range(55):
        deep = (deep,)
    cards = {}
    for _ in range(20):
        cards = {"a": [cards]}
    return [
        None, True, False, 0, 1, -1, 7, 10 ** 399, "", "x", "die", "till", "form", "x y\n", "x" * 20000, "{" * 300, "\n",
        (), (None,), (True, 1), (1, True), ("die",), ("till",), ("if",), ("either", 1, 2, 3), ((), ()), (("x",),),
        ("x", "y"), [], [()], [[]], ["x"], {}, {"die": ()}, {(1, 2): [3]}, {1: {2: {}}}, deep, cards,
        tuple(range(4000)), ((),) * 3999, [0] * 3999, errors.Unfit(), errors.TooMany(2000), errors.BadProgram(("form",)),
    ]
