"""The parts of a book: their steps, which other parts they do, and how many steps they come to.

Rows are a list of the pairs (name, steps) of all parts, in order: what is asked for of each of them.
"""

from everystart.errors import NoName
from everystart.programs import listed


def part_named(book, name):
    """Return the part of book with this name."""
    for part in book[1]:
        if part[1] == name:
            return part
    raise NoName(name)


def is_loop(part):
    """Return whether part is a loop part."""
    return part[0] == "loop"


def done_steps(part):
    """Return the steps that part does: once, or as long as its test is so."""
    return part[3] if is_loop(part) else part[2]


def told_steps(part):
    """Return the steps that the book tells of part."""
    return part[4] if is_loop(part) else part[2]


def done_rows(book):
    """Return the rows of the steps that are done."""
    return [(part[1], done_steps(part)) for part in book[1]]


def told_rows(book):
    """Return the rows of the steps that are told."""
    return [(part[1], told_steps(part)) for part in book[1]]


def all_rows(book):
    """Return the rows of the steps that are done and those that are told."""
    return [(part[1], done_steps(part) + told_steps(part)) for part in book[1]]


def names_reached(rows, name):
    """Return the names of all parts that are done in the steps of the part with this name, in order."""
    reached = {}
    # A part does those ahead of it alone.
    for other, steps in reversed(rows):
        if other == name or other in reached:
            for step in steps:
                if step[0] == "do":
                    reached[step[1]] = True
    return [other for other, _ in rows if other in reached]


def sizes_of(rows):
    """Return a dict of the sizes of the steps in rows, by name."""
    sizes = {}
    for name, steps in rows:
        sizes[name] = size_of(sizes, steps)
    return sizes


def size_of(sizes, steps):
    """Return how many steps there are in steps, with those of the parts that are done, whose sizes are told."""
    total = 0
    for _, step in listed(steps):
        total += 1
        if step[0] == "do":
            total += sizes[step[1]]
    return total


def settled_steps(rows, steps):
    """Return steps with those of rows, likewise settled, in the place of each part that is done."""
    held = dict(rows)
    settled = []
    for step in steps:
        if step[0] == "do":
            settled.extend(settled_steps(rows, held[step[1]]))
        else:
            settled.append(step)
    return tuple(settled)
