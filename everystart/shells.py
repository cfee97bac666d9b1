"""Shells: desks that are spoken to by lines of text."""

from everystart.books import faults
from everystart.booktexts import read_book
from everystart.bounds import MAX_FIGURES
from everystart.desks import Desk
from everystart.errors import (
    BadProgram, BadText, Never, NothingToRedo, NothingToUndo, NoVersion, TooMany, TooManyEdits, Unfit,
)
from everystart.fractions import FIGURES, fraction_text
from everystart.integers import power
from everystart.programs import is_name
from everystart.programtexts import program_text, read_program, read_steps

# What stands behind the word of each line, with one blank ahead of each.
FORMS = {
    "new": ("text",), "put": ("number", "text"), "drop": ("number",), "swap": ("number",), "undo": (), "redo": (),
    "program": (), "share": ("stand", "stand"), "known": ("stand", "stand"), "left": ("stand",),
    "mean": ("stand", "name"), "alike": ("text",), "parting": ("number",), "lean": (), "judge": ("text",),
}
EDITS = ("put", "drop", "swap", "undo", "redo")
ASKING_FIGURES = ("share", "known", "left", "mean")
MAX_NUMBER_SIGNS = 3
MAX_STAND_SIGNS = 4


class Shell:
    """A Desk, at first none, that lines of text are said to."""

    def __init__(self):
        self._desk = None

    def say(self, line):
        """Return the answer to line."""
        asked = _asked(line)
        if asked is None:
            return "what"
        word, given = asked
        if self._desk is None and word != "new" and word != "judge":
            return "no desk"
        try:
            return self._answer(word, given)
        except Unfit:
            return "error Unfit"
        except BadText:
            return "error BadText"
        except Never:
            return "error Never"
        except BadProgram:
            return "error BadProgram"
        except TooMany:
            return "error TooMany"
        except TooManyEdits:
            return "error TooManyEdits"
        except NothingToUndo:
            return "error NothingToUndo"
        except NothingToRedo:
            return "error NothingToRedo"
        except NoVersion:
            return "error NoVersion"

    def _answer(self, word, given):
        """Return the answer to the line of word and what was given behind it."""
        if word == "new":
            names, _ = read_program(given[0] + ": skip")
            self._desk = Desk(names)
            return "version 0"
        if word == "judge":
            return _judged(given[0])
        if word in EDITS:
            return "version " + str(_edited(self._desk, word, given))
        if word in ASKING_FIGURES:
            return _figure_text(_figure(self._desk, word, given))
        if word == "program":
            return program_text(self._desk.program)
        if word == "lean":
            return program_text(self._desk.lean())
        if word == "alike":
            return _parting_text(self._desk.alike(read_program(given[0])))
        return _parting_text(self._desk.parting(given[0]))


def _asked(line):
    """Return the word of line, and the list of what is given behind it; None if line has none of the forms."""
    if not isinstance(line, str):
        return None
    word, blank, rest = line.partition(" ")
    if word not in FORMS:
        return None
    kinds = FORMS[word]
    given = []
    for place, kind in enumerate(kinds):
        if blank == "":
            return None
        piece = rest
        if place < len(kinds) - 1:
            piece, blank, rest = rest.partition(" ")
        found = _read_piece(kind, piece)
        if found is None:
            return None
        given.append(found)
    if kinds == () and blank != "":
        return None
    return word, given


def _read_piece(kind, piece):
    """Return what piece, a text, is of this kind; None if it is none."""
    if kind == "number":
        return _read_number(piece, MAX_NUMBER_SIGNS)
    if kind == "stand":
        numbers = [_read_number(text, MAX_STAND_SIGNS) for text in piece.split(",")]
        return None if None in numbers else tuple(numbers)
    if kind == "name":
        return piece if is_name(piece) else None
    return piece


def _read_number(text, most):
    """Return the number of which text, of at most so many figures, is the text; None if it is of none."""
    if not 1 <= len(text) <= most or not all([sign in FIGURES for sign in text]):
        return None
    if text[0] == "0" and text != "0":
        return None
    return int(text)


def _edited(desk, word, given):
    """Do the edit of word on desk, and return the version."""
    if word == "put":
        steps = read_steps(desk.names, given[1])
        if len(steps) != 1:
            raise BadText()
        return desk.put(given[0], steps[0])
    if word == "drop":
        return desk.drop(given[0])
    if word == "swap":
        return desk.swap(given[0])
    return desk.undo() if word == "undo" else desk.redo()


def _figure(desk, word, given):
    """Return the fraction that is asked of desk."""
    if word == "share":
        return desk.share(given[0], given[1])
    if word == "known":
        return desk.known(given[0], given[1])
    if word == "left":
        return desk.left(given[0])
    if given[1] not in desk.names:
        raise Unfit()
    return desk.mean(given[0], desk.names.index(given[1]))


def _figure_text(fraction):
    """Return the text of fraction, if its integers are not too great."""
    bound = power(10, MAX_FIGURES)
    return "great" if abs(fraction[0]) >= bound or fraction[1] >= bound else fraction_text(fraction)


def _parting_text(parting):
    """Return the text of where two programs part, or that they are alike."""
    if parting is None:
        return "alike"
    start, end = parting
    return "parted " + _stand_text(start) + " " + _stand_text(end)


def _stand_text(stand):
    """Return the text of the numbers of stand."""
    return ",".join([str(number) for number in stand])


def _judged(text):
    """Return whether the book of which text is the text is right, or the verdicts of the parts that are not."""
    found = faults(read_book(text))
    if found == ():
        return "right"
    return "; ".join([name + " " + word for name, word, _ in found])
