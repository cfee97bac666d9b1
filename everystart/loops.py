"""Loops: what is one, what comes of it behind some rounds, and whether a told program is kept by a round."""

from everystart.alikeness import alike
from everystart.errors import Unfit
from everystart.programs import program_error
from everystart.runs import left_of, share_of
from everystart.stands import passes


def loop_error(value):
    """Return None if value is a loop, otherwise the first fault."""
    if not isinstance(value, tuple) or len(value) != 3:
        return "form"
    names, test, steps = value
    error = program_error((names, (("if", test, steps, ()),)))
    if error is not None:
        return "program", error
    return None


def ended(loop, start, many, end):
    """Return the chance that from start loop is done behind at most many rounds, at end."""
    share = share_of(_unrolled(loop, many), start, end)
    # A run that is at a stand where the test is so is not done, however it came there.
    return (0, 1) if passes(end, loop[1]) else share


def inside(loop, start, many):
    """Return the chance that from start a run is still within loop behind just many rounds."""
    names, steps = _unrolled(loop, many)
    return left_of((names, steps + (("seen", loop[1]),)), start)


def _unrolled(loop, many):
    """Return the program that does many rounds of loop, each of them only while the test is so."""
    names, test, steps = loop
    return names, (("if", test, steps, ()),) * many


def round_ahead(loop, told):
    """Return the program that does a round of loop and then told, if loop's test is so."""
    names, test, steps = loop
    if told[0] != names:
        raise Unfit()
    return names, (("if", test, steps + told[1], ()),)


def keeps(loop, told):
    """Return whether told does the same with a round of loop put ahead of it."""
    return alike(told, round_ahead(loop, told)) is None
