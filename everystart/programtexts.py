"""The texts of programs and of steps, and programs and steps of texts."""

from everystart.bounds import MAX_NEST
from everystart.errors import BadText
from everystart.fractions import fraction_text
from everystart.programs import names_error, steps_error
from everystart.reading import Reader


def program_text(program):
    """Return the text of program."""
    names, steps = program
    return ", ".join(names) + ": " + steps_text(names, steps)


def steps_text(names, steps):
    """Return the text of steps."""
    if steps == ():
        return "skip"
    return "; ".join([_step_text(names, step) for step in steps])


def _step_text(names, step):
    """Return the text of step."""
    word = step[0]
    if word == "seen":
        return "seen " + text_of_test(names, step[1])
    if word == "if":
        yes, no = steps_text(names, step[2]), steps_text(names, step[3])
        return "if " + text_of_test(names, step[1]) + " {" + yes + "} else {" + no + "}"
    if word == "either":
        yes, no = steps_text(names, step[2]), steps_text(names, step[3])
        return "either " + fraction_text(step[1]) + " {" + yes + "} or {" + no + "}"
    return names[step[1]] + _change_text(names, step)


def _change_text(names, step):
    """Return what stands behind the counter in the text of step, which changes one."""
    word = step[0]
    if word == "set":
        return " := " + str(step[2])
    if word == "add":
        return " += " + str(step[2])
    if word == "less":
        return " -= 1"
    if word == "throw":
        return " += " + _die_text(step[2])
    return " += " + _die_text(step[2]) + " by " + names[step[3]]


def _die_text(die):
    """Return the text of die."""
    word, held = die
    if word == "till":
        return "till " + fraction_text(held)
    return "die " + ", ".join([fraction_text(share) + " " + str(number) for number, share in held])


def text_of_test(names, test):
    """Return the text of test."""
    counter, word, number = test
    sign = " < " if word == "below" else " >= "
    return names[counter] + sign + str(number)


def read_program(value):
    """Return the program of which value is the text."""
    if not isinstance(value, str):
        raise BadText()
    reader = Reader(value)
    names = read_names(reader)
    reader.needs(" ")
    return names, _whole_steps(reader, names)


def read_steps(names, value):
    """Return the steps of a program with these names of which value is the text."""
    if not isinstance(value, str):
        raise BadText()
    return _whole_steps(Reader(value), names)


def read_names(reader):
    """Return the names that reader comes to, and go on behind the ":" that ends them."""
    names = [reader.word()]
    while reader.passes(", "):
        names.append(reader.word())
    reader.needs(":")
    if names_error(tuple(names)) is not None:
        raise BadText()
    return tuple(names)


def _whole_steps(reader, names):
    """Return the steps that reader comes to, behind which nothing is left."""
    steps = _read_tuple(reader, names, 0)
    reader.ends()
    if steps_error(len(names), steps) is not None:
        raise BadText()
    return steps


def _read_tuple(reader, names, nest):
    """Return the steps, within nest others, that reader comes to."""
    word = reader.word()
    if word == "skip":
        return ()
    steps = [read_step(reader, names, nest, word)]
    while reader.passes("; "):
        steps.append(read_step(reader, names, nest, reader.word()))
    return tuple(steps)


def read_step(reader, names, nest, word):
    """Return the step that begins with word, behind which reader stands."""
    if word == "seen":
        reader.needs(" ")
        return "seen", read_test(reader, names)
    if word == "if" or word == "either":
        # Texts may be nested deeper than calls can be.
        if nest >= MAX_NEST:
            raise BadText()
        reader.needs(" ")
        if word == "if":
            return _read_branches(reader, names, nest, word, read_test(reader, names), "else")
        return _read_branches(reader, names, nest, word, reader.fraction(), "or")
    return _read_change(reader, names, _counter(names, word))


def _read_branches(reader, names, nest, word, chooser, between):
    """Return the step of word and chooser, with the branches that reader comes to."""
    reader.needs(" {")
    yes = _read_tuple(reader, names, nest + 1)
    reader.needs("} " + between + " {")
    no = _read_tuple(reader, names, nest + 1)
    reader.needs("}")
    return word, chooser, yes, no


def _read_change(reader, names, counter):
    """Return the step that changes counter, behind whose name reader stands."""
    if reader.passes(" := "):
        return "set", counter, reader.number()
    if reader.passes(" -= 1"):
        return "less", counter
    reader.needs(" += ")
    if reader.passes("die "):
        die = "die", _read_sides(reader)
    elif reader.passes("till "):
        die = "till", reader.fraction()
    else:
        return "add", counter, reader.number()
    if reader.passes(" by "):
        return "sum", counter, die, _counter(names, reader.word())
    return "throw", counter, die


def _read_sides(reader):
    """Return the sides of a die that reader comes to."""
    sides = [_read_side(reader)]
    while reader.passes(", "):
        sides.append(_read_side(reader))
    return tuple(sides)


def _read_side(reader):
    """Return the side of a die that reader comes to."""
    share = reader.fraction()
    reader.needs(" ")
    return reader.number(), share


def read_test(reader, names):
    """Return the test that reader comes to."""
    counter = _counter(names, reader.word())
    if reader.passes(" < "):
        return counter, "below", reader.number()
    reader.needs(" >= ")
    return counter, "from", reader.number()


def _counter(names, word):
    """Return the place of the counter that is called word."""
    for place, name in enumerate(names):
        if name == word:
            return place
    raise BadText()
