"""Books: what is one, what its parts do, and whether its loops do what it tells of them."""

from everystart.alikeness import alike
from everystart.bookparts import (
    all_rows, done_rows, done_steps, is_loop, names_reached, part_named, settled_steps, size_of, sizes_of, told_rows,
    told_steps,
)
from everystart.bounds import MAX_NODES, MAX_PARTS
from everystart.ending import falls, measure_error, verdict_word
from everystart.errors import BadBook, TooMany, Unfit
from everystart.fractions import lowest
from everystart.loops import loop_error, round_ahead
from everystart.programs import is_name, names_error, steps_error
from everystart.stands import has_till
from everystart.walks import Walk


def book_error(value):
    """Return None if value is a book, otherwise the first fault."""
    if not isinstance(value, tuple) or len(value) != 2:
        return "form"
    names, parts = value
    if not isinstance(names, tuple) or not isinstance(parts, tuple) or len(parts) > MAX_PARTS:
        return "form"
    error = names_error(names)
    if error is not None:
        return "names", error
    taken = []
    for place, part in enumerate(parts):
        error = _part_error(names, taken, part)
        if error is not None:
            return "part", place, error
        taken.append(part[1])
    return None


def _part_error(names, taken, part):
    """Return None if part is one, the parts ahead having the names in taken, otherwise the first fault."""
    if not _is_formed(part):
        return "form"
    if not is_name(part[1]):
        return "name"
    if part[1] in taken:
        return "taken"
    if not is_loop(part):
        error = steps_error(len(names), _with_dos_right(taken, part[2]))
        return None if error is None else ("steps", error)
    loop = names, part[2], _with_dos_right(taken, part[3])
    error = loop_error(loop)
    if error is not None:
        return "loop", error
    error = steps_error(len(names), _with_dos_right(taken, part[4]))
    if error is not None:
        return "told", error
    error = measure_error(loop, part[5])
    return None if error is None else ("measure", error)


def _is_formed(part):
    """Return whether part is a triple or a sextuple that begins with the word of such a part."""
    if not isinstance(part, tuple):
        return False
    return len(part) == 3 and part[0] == "program" or len(part) == 6 and part[0] == "loop"


def _with_dos_right(taken, steps):
    """Return steps with a right step in the place of each pair that does a part with a name in taken."""
    if not isinstance(steps, tuple):
        return steps
    return tuple([("less", 0) if _does_one(taken, step) else step for step in steps])


def _does_one(taken, step):
    """Return whether step is a pair that does a part with a name in taken."""
    return isinstance(step, tuple) and len(step) == 2 and step[0] == "do" and step[1] in taken


def put_part(book, value):
    """Return book with the part value behind all others."""
    names, parts = book
    if len(parts) >= MAX_PARTS:
        raise TooMany(MAX_PARTS)
    longer = names, parts + (value,)
    error = book_error(longer)
    if error is not None:
        raise BadBook(error)
    return longer


def settled(book, name):
    """Return the program of what book tells of the part with this name."""
    part = part_named(book, name)
    rows = told_rows(book)
    _check_size(sizes_of(rows)[name])
    return book[0], settled_steps(rows, told_steps(part))


def _check_size(size):
    """Check that steps of this size are not too many."""
    if size > MAX_NODES:
        raise TooMany(MAX_NODES)


def uses(book, name):
    """Return the names of all parts that the part with this name uses, in the order of book."""
    part_named(book, name)
    return tuple(names_reached(all_rows(book), name))


def faults(book):
    """Return for each loop part that does not surely do what is told of it its name, the verdict and the parting."""
    names, parts = book
    rows = told_rows(book)
    sizes = sizes_of(rows)
    loops = [part for part in parts if is_loop(part)]
    for size in list(sizes.values()) + [size_of(sizes, done_steps(part)) for part in loops]:
        _check_size(size)
    found = []
    for part in loops:
        loop = names, part[2], settled_steps(rows, done_steps(part))
        told = names, settled_steps(rows, told_steps(part))
        parting = alike(told, round_ahead(loop, told))
        word = verdict_word(parting is None, falls(loop, part[5]))
        if word != "does":
            found.append((part[1], word, parting))
    return tuple(found)


def gone(book, name, start, many):
    """Return what goes through the part with this name from start, in no loop for more than many rounds.

    That is the ascending pairs of all ends and their shares, and the share that is held up in a loop.
    """
    part = part_named(book, name)
    rows = done_rows(book)
    reached = names_reached(rows, name)
    if has_till(done_steps(part)) or any([has_till(steps) for other, steps in rows if other in reached]):
        raise Unfit()
    _check_size(sizes_of(rows)[name])
    (weights, whole), held = Walk(book, many).through(name, start)
    return tuple([(end, lowest(weights[end], whole)) for end in sorted(weights)]), held
