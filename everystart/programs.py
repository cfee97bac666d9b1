"""Programs: what is one, the ways of its steps, and programs behind one another."""

from everystart.bounds import MAX_COUNTERS, MAX_NEST, MAX_NODES, MAX_NUMBER, MAX_TEST
from everystart.dice import die_error
from everystart.errors import TooMany, Unfit
from everystart.fractions import is_chance
from everystart.integers import is_integer, is_within

LETTERS = "abcdefghijklmnopqrstuvwxyz"
MAX_LETTERS = 8
WORDS = (
    "as", "by", "die", "do", "either", "else", "if", "loop", "or", "program", "seen", "skip", "till", "while",
)
SIZES = {"set": 3, "add": 3, "less": 2, "throw": 3, "sum": 4, "if": 4, "either": 4, "seen": 2}


def names_error(value):
    """Return None if value are the names of a program, otherwise the first fault."""
    if not isinstance(value, tuple) or not 1 <= len(value) <= MAX_COUNTERS:
        return "form"
    for place, name in enumerate(value):
        if not is_name(name):
            return "name", place
    for place, name in enumerate(value):
        if name in value[:place]:
            return "twice", place
    return None


def is_name(value):
    """Return whether value is a name."""
    if not isinstance(value, str) or not 1 <= len(value) <= MAX_LETTERS:
        return False
    return value not in WORDS and all([sign in LETTERS for sign in value])


def is_test(many, value):
    """Return whether value is a test of many counters."""
    if not isinstance(value, tuple) or len(value) != 3:
        return False
    counter, word, number = value
    if not is_within(counter, 0, many - 1) or not is_within(number, 1, MAX_TEST):
        return False
    return word == "below" or word == "from"


def branches(value):
    """Return the two tuples of steps within value if it is an "if" or "either", otherwise ()."""
    if not isinstance(value, tuple) or len(value) != 4:
        return ()
    if value[0] != "if" and value[0] != "either":
        return ()
    if not isinstance(value[2], tuple) or not isinstance(value[3], tuple):
        return ()
    return value[2:]


def listed(steps, way=()):
    """Return the pairs (way, step) of the steps of steps, in order; way is that of the tuple."""
    found = []
    for place, step in enumerate(steps):
        here = way + (place,)
        found.append((here, step))
        for side, branch in enumerate(branches(step)):
            found.extend(listed(branch, here + (side,)))
    return found


def steps_error(many, value):
    """Return None if value are the steps of a program with many counters, otherwise the first fault."""
    if not isinstance(value, tuple):
        return "form", ()
    found = listed(value)
    if len(found) > MAX_NODES:
        return "many", ()
    for way, step in found:
        # Each "if" or "either" around a step puts two items more into its way.
        word = _step_error(many, step, len(way) // 2)
        if word is not None:
            return word, way
    return None


def _step_error(many, step, nest):
    """Return None if step, which stands within nest others, is one, otherwise the word of its fault."""
    if not _is_formed(step):
        return "step"
    word = step[0]
    if word == "if" or word == "either":
        if nest >= MAX_NEST:
            return "nest"
        if word == "if":
            return None if is_test(many, step[1]) else "test"
        return None if is_chance(step[1]) else "share"
    if word == "seen":
        return None if is_test(many, step[1]) else "test"
    return _change_error(many, step)


def _is_formed(step):
    """Return whether step is a tuple that begins with a word of a step, and has the form of one."""
    if not isinstance(step, tuple) or len(step) == 0 or not isinstance(step[0], str):
        return False
    if step[0] not in SIZES or SIZES[step[0]] != len(step):
        return False
    if step[0] == "if" or step[0] == "either":
        return isinstance(step[2], tuple) and isinstance(step[3], tuple)
    return True


def _change_error(many, step):
    """Return None if step, which changes a counter, is right, otherwise the word of its fault."""
    word = step[0]
    counters = (step[1], step[3]) if word == "sum" else (step[1],)
    if not all([is_within(counter, 0, many - 1) for counter in counters]):
        return "counter"
    if word == "set":
        return None if is_within(step[2], 0, MAX_NUMBER) else "number"
    if word == "add":
        return None if is_within(step[2], 1, MAX_NUMBER) else "number"
    if word == "throw" or word == "sum":
        return None if die_error(step[2]) is None else "die"
    return None


def program_error(value):
    """Return None if value is a program, otherwise the first fault."""
    if not isinstance(value, tuple) or len(value) != 2:
        return "form"
    names, steps = value
    error = names_error(names)
    if error is not None:
        return "names", error
    error = steps_error(len(names), steps)
    if error is not None:
        return "steps", error
    return None


def ways(program):
    """Return the ways of all steps of program, in order."""
    return tuple([way for way, _ in listed(program[1])])


def step_at(program, way):
    """Return the step of program with this way."""
    if not isinstance(way, tuple) or not all([is_integer(item) for item in way]):
        raise Unfit()
    for found, step in listed(program[1]):
        if found == way:
            return step
    raise Unfit()


def without(program, way):
    """Return program without the step with this way."""
    step_at(program, way)
    names, steps = program
    return names, _left(steps, way)


def _left(steps, way):
    """Return steps without the one with this way."""
    place = way[0]
    if len(way) == 1:
        return steps[:place] + steps[place + 1:]
    step = steps[place]
    held = [step[2], step[3]]
    held[way[1]] = _left(held[way[1]], way[2:])
    return steps[:place] + ((step[0], step[1], held[0], held[1]),) + steps[place + 1:]


def put_behind(one, other):
    """Return the program that does the steps of one and then those of other."""
    if len(one[0]) != len(other[0]):
        raise Unfit()
    steps = one[1] + other[1]
    if len(listed(steps)) > MAX_NODES:
        raise TooMany(MAX_NODES)
    return one[0], steps
