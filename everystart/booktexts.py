"""The texts of books, and books of texts."""

from everystart.books import book_error
from everystart.bookparts import is_loop
from everystart.errors import BadText
from everystart.fractions import fraction_text
from everystart.programtexts import read_names, read_step, read_test, steps_text, text_of_test
from everystart.reading import Reader


def book_text(book):
    """Return the text of book."""
    names, parts = book
    return "\n".join([", ".join(names) + ":"] + [_part_text(names, part) for part in parts])


def _part_text(names, part):
    """Return the text of part."""
    if not is_loop(part):
        return "program " + part[1] + " {" + _steps_text(names, part[2]) + "}"
    _, name, test, steps, told, measure = part
    head = "loop " + name + " while " + text_of_test(names, test)
    held = " {" + _steps_text(names, steps) + "} as {" + _steps_text(names, told) + "}"
    return head + held + " by " + ", ".join([fraction_text(weight) for weight in measure])


def _steps_text(names, steps):
    """Return the text of steps of a book."""
    if steps == ():
        return "skip"
    return "; ".join(["do " + step[1] if step[0] == "do" else steps_text(names, (step,)) for step in steps])


def read_book(value):
    """Return the book of which value is the text."""
    if not isinstance(value, str):
        raise BadText()
    reader = Reader(value)
    names = read_names(reader)
    parts = []
    while reader.passes("\n"):
        parts.append(_read_part(reader, names))
    reader.ends()
    book = names, tuple(parts)
    if book_error(book) is not None:
        raise BadText()
    return book


def _read_part(reader, names):
    """Return the part that reader comes to."""
    if reader.passes("program "):
        name = reader.word()
        reader.needs(" {")
        steps = _read_steps(reader, names)
        reader.needs("}")
        return "program", name, steps
    reader.needs("loop ")
    name = reader.word()
    reader.needs(" while ")
    test = read_test(reader, names)
    reader.needs(" {")
    steps = _read_steps(reader, names)
    reader.needs("} as {")
    told = _read_steps(reader, names)
    reader.needs("} by ")
    return "loop", name, test, steps, told, _read_measure(reader)


def _read_steps(reader, names):
    """Return the steps of a book that reader comes to."""
    word = reader.word()
    if word == "skip":
        return ()
    steps = [_read_step(reader, names, word)]
    while reader.passes("; "):
        steps.append(_read_step(reader, names, reader.word()))
    return tuple(steps)


def _read_step(reader, names, word):
    """Return the step of a book that begins with word, behind which reader stands."""
    if word == "do":
        reader.needs(" ")
        return "do", reader.word()
    return read_step(reader, names, 0, word)


def _read_measure(reader):
    """Return the weights that reader comes to."""
    weights = [reader.fraction()]
    while reader.passes(", "):
        weights.append(reader.fraction())
    return tuple(weights)
