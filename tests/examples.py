"""Runs examples as the document writes them.

A line behind ">>> " is done; the line below it, if it is none of these,
tells what comes: a value, or "raises" and the error with its fields.
"""

from everystart import errors


def parted(text):
    """Return the pairs of each line that is done and the line that tells what comes, or None."""
    found = []
    for line in [line.strip() for line in text.strip().splitlines()]:
        if line.startswith(">>> "):
            found.append((line[4:], None))
        elif line:
            found[-1] = (found[-1][0], line)
    return found


def check_examples(case, text):
    """Do all examples of text, each name once set staying set, and check what comes of each."""
    names = {}
    for line, told in parted(text):
        with case.subTest(line=line):
            check_example(case, line, told, names)


def check_example(case, line, told, names):
    """Do one line and check what comes of it."""
    if told is None:
        exec(line, names)
    elif told.startswith("raises "):
        awaited = eval(told[len("raises "):], dict(vars(errors)))
        with case.assertRaises(errors.ThrowError) as caught:
            eval(line, names)
        case.assertIs(type(caught.exception), type(awaited))
        case.assertEqual(vars(caught.exception), vars(awaited))
    else:
        # repr tells True from 1, and a list from a tuple.
        case.assertEqual(repr(eval(line, names)), repr(eval(told, {})))
