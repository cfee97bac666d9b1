"""Lean programs: which steps are needed, and which may be exchanged."""

from everystart.alikeness import alike
from everystart.programs import put_behind, ways, without


def needed(program, way):
    """Return None if the step with this way is needless, otherwise a start and an end for which it is needed."""
    return alike(program, without(program, way))


def needless(program):
    """Return the ways of all steps of program that can be left out, each by itself."""
    return tuple([way for way in ways(program) if needed(program, way) is None])


def lean(program):
    """Return what is left of program if the first needless step is left out, as long as there is one."""
    left = _one_less(program)
    while left is not None:
        program = left
        left = _one_less(program)
    return program


def _one_less(program):
    """Return program without its first needless step; None if there is none."""
    for way in ways(program):
        if needed(program, way) is None:
            return without(program, way)
    return None


def commute(one, other):
    """Return None if one and other can be done in either order, otherwise where the two orders part."""
    return alike(put_behind(one, other), put_behind(other, one))


def free(program):
    """Return the places of the outermost steps of program that can be exchanged with the next one."""
    names, steps = program
    found = []
    for place in range(len(steps) - 1):
        exchanged = steps[:place] + (steps[place + 1], steps[place]) + steps[place + 2:]
        if alike(program, (names, exchanged)) is None:
            found.append(place)
    return tuple(found)
