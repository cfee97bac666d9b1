"""Desks: programs that are edited step by step, and asked what they do."""

from everystart.alikeness import alike
from everystart.bounds import MAX_EDITS, MAX_END, MAX_NODES, MAX_NUMBER
from everystart.errors import (
    BadLog, BadProgram, NothingToRedo, NothingToUndo, NoVersion, ThrowError, TooMany, TooManyEdits, Unfit,
)
from everystart.figures import known_share, mean_of
from everystart.integers import is_within
from everystart.leaning import lean
from everystart.programs import listed, program_error
from everystart.runs import left_of, share_of

# How many arguments each edit takes.
EDITS = {"put": 2, "drop": 1, "swap": 1}


class Desk:
    """A program that is edited, with the edits that stand and those that were taken back."""

    def __init__(self, names):
        error = program_error((names, ()))
        if error is not None:
            raise BadProgram(error)
        self._names = names
        # The steps when none, one, two .. of the edits stood, and those edits.
        self._past = [()]
        self._edits = []
        # Pairs of an edit and the steps behind it; what was taken back last stands last.
        self._undone = []

    def __eq__(self, other):
        return isinstance(other, Desk) and self.program == other.program

    @property
    def names(self):
        """The names of the counters."""
        return self._names

    @property
    def steps(self):
        """The steps of the program."""
        return self._past[-1]

    @property
    def program(self):
        """The program: the pair of names and steps."""
        return self._names, self._past[-1]

    @property
    def log(self):
        """The edits that stand, each a pair of its word and its arguments."""
        return tuple(self._edits)

    @property
    def version(self):
        """How many edits stand."""
        return len(self._edits)

    def put(self, place, step):
        """Put step at place, ahead of the one that stands there."""
        if not is_within(place, 0, len(self.steps)):
            raise Unfit()
        error = program_error((self._names, (step,)))
        if error is not None:
            raise BadProgram(error)
        steps = self.steps[:place] + (step,) + self.steps[place:]
        if len(listed(steps)) > MAX_NODES:
            raise TooMany(MAX_NODES)
        return self._edited("put", (place, step), steps)

    def drop(self, place):
        """Take away the step at place."""
        if not is_within(place, 0, len(self.steps) - 1):
            raise Unfit()
        return self._edited("drop", (place,), self.steps[:place] + self.steps[place + 1:])

    def swap(self, place):
        """Exchange the steps at place and at the next one."""
        if not is_within(place, 0, len(self.steps) - 2):
            raise Unfit()
        exchanged = (self.steps[place + 1], self.steps[place])
        return self._edited("swap", (place,), self.steps[:place] + exchanged + self.steps[place + 2:])

    def _edited(self, word, arguments, steps):
        """Let the edit of word and arguments, which leads to steps, stand, and return the version."""
        if len(self._edits) >= MAX_EDITS:
            raise TooManyEdits()
        self._edits.append((word, arguments))
        self._past.append(steps)
        self._undone = []
        return self.version

    def undo(self):
        """Take back the last edit that stands."""
        if self._edits == []:
            raise NothingToUndo()
        self._undone.append((self._edits.pop(), self._past.pop()))
        return self.version

    def redo(self):
        """Do again the edit that was taken back last."""
        if self._undone == []:
            raise NothingToRedo()
        edit, steps = self._undone.pop()
        self._edits.append(edit)
        self._past.append(steps)
        return self.version

    def at(self, version):
        """Return the program when so many of the edits stood."""
        if not is_within(version, 0, self.version):
            raise NoVersion(version)
        return self._names, self._past[version]

    def copy(self):
        """Return a Desk like this one, of its own."""
        other = Desk(self._names)
        other._past = list(self._past)
        other._edits = list(self._edits)
        other._undone = list(self._undone)
        return other

    def share(self, start, end):
        """Return the share by which a run comes from start to end."""
        self._check_stand(start, MAX_NUMBER)
        self._check_stand(end, MAX_END)
        return share_of(self.program, start, end)

    def left(self, start):
        """Return the share by which a run from start comes to an end at all."""
        self._check_stand(start, MAX_NUMBER)
        return left_of(self.program, start)

    def known(self, start, end):
        """Return the chance that a run from start that is not dropped ends at end."""
        self._check_stand(start, MAX_NUMBER)
        self._check_stand(end, MAX_END)
        return known_share(self.program, start, end)

    def mean(self, start, counter):
        """Return the mean of counter's number at the end, of runs from start that are not dropped."""
        self._check_stand(start, MAX_NUMBER)
        if not is_within(counter, 0, len(self._names) - 1):
            raise Unfit()
        return mean_of(self.program, start, counter)

    def _check_stand(self, value, most):
        """Check that value has a number from 0 to most for each counter."""
        if not isinstance(value, tuple) or len(value) != len(self._names):
            raise Unfit()
        if not all([is_within(number, 0, most) for number in value]):
            raise Unfit()

    def alike(self, value):
        """Return where the program and the program value part, None if they do nowhere."""
        if program_error(value) is not None:
            raise Unfit()
        return alike(self.program, value)

    def parting(self, version):
        """Return where the program when so many edits stood and the present one part, None if they do nowhere."""
        return alike(self.at(version), self.program)

    def lean(self):
        """Return what is left of the program without needless steps."""
        return lean(self.program)


def desk_behind(names, value):
    """Return a new Desk on which the edits of value, a log, were done."""
    desk = Desk(names)
    if not isinstance(value, tuple):
        raise BadLog(0)
    for place, item in enumerate(value):
        if not _is_edit(item):
            raise BadLog(place)
        try:
            _edit(desk, item[0], item[1])
        except ThrowError:
            raise BadLog(place) from None
    return desk


def _is_edit(value):
    """Return whether value is a pair of the word of an edit and as many arguments as it takes."""
    if not isinstance(value, tuple) or len(value) != 2:
        return False
    word, arguments = value
    if not isinstance(word, str) or word not in EDITS or not isinstance(arguments, tuple):
        return False
    return len(arguments) == EDITS[word]


def _edit(desk, word, arguments):
    """Do the edit of word and arguments on desk."""
    if word == "put":
        desk.put(arguments[0], arguments[1])
    elif word == "drop":
        desk.drop(arguments[0])
    else:
        desk.swap(arguments[0])
