"""The interface as a whole: what stands in each file, with its arguments."""

import ast
import importlib
import inspect
import pathlib
import unittest

PACKAGE = pathlib.Path(__file__).resolve().parent.parent / "everystart"
FILES = {
    "fractions": ["lowest(a, b)", "compared(one, other)", "fraction_text(fraction)", "read_fraction(value)"],
    "dice": ["die_error(value)", "side_share(die, number)", "die_mean(die)", "least_side(die)", "sum_share(die, many, number)"],
    "programs": [
        "names_error(value)", "is_test(many, value)", "steps_error(many, value)", "program_error(value)", "ways(program)", "step_at(program, way)", "without(program, way)", "put_behind(one, other)",
    ],
    "programtexts": ["program_text(program)", "read_program(value)", "steps_text(names, steps)", "read_steps(names, value)"],
    "runs": ["share_of(program, start, end)", "left_of(program, start)"],
    "figures": ["known_share(program, start, end)", "mean_of(program, start, counter)", "outcomes(program, start)"],
    "polynomials": ["polynomial_error(n, value)", "added(one, other)", "multiplied(one, other)", "put_in(n, polynomial, place, other)"],
    "closedforms": ["form_error(n, value)", "coefficient(n, form, powers)", "same_series(n, one, other)", "together(n, form)"],
    "effects": ["effect(program)", "effect_error(program, value)", "left_form(program)", "mean_form(program, counter)"],
    "alikeness": ["alike(one, other)", "hangs(program, last, first)"],
    "loops": ["loop_error(value)", "ended(loop, start, many, end)", "inside(loop, start, many)", "round_ahead(loop, told)", "keeps(loop, told)"],
    "ending": ["measure_error(loop, value)", "rise(steps, measure, lows, gap)", "falls(loop, measure)", "verdict(loop, told, measure)"],
    "leaning": ["needed(program, way)", "needless(program)", "lean(program)", "commute(one, other)", "free(program)"],
    "books": ["book_error(value)", "put_part(book, value)", "settled(book, name)", "uses(book, name)", "faults(book)", "gone(book, name, start, many)"],
    "booktexts": ["book_text(book)", "read_book(value)"],
    "desks": ["Desk(names)", "desk_behind(names, value)"],
    "shells": ["Shell()"],
}
METHODS = {
    ("desks", "Desk"): [
        "put(place, step)", "drop(place)", "swap(place)", "undo()", "redo()", "at(version)", "copy()", "share(start, end)", "left(start)", "known(start, end)", "mean(start, counter)", "alike(value)",
        "parting(version)", "lean()", "names()", "steps()", "program()", "log()", "version()", "__eq__(other)",
    ],
    ("shells", "Shell"): ["say(line)"],
}


def defined(body, methods):
    """Return the headings of all that is defined in body, by name; of methods without their first argument."""
    found = {}
    for node in body:
        if isinstance(node, ast.FunctionDef):
            found[node.name] = node.name + "(" + ", ".join(arg.arg for arg in node.args.args[1 if methods else 0:]) + ")"
    return found


class InterfaceTest(unittest.TestCase):
    def test_each_stands_in_its_file(self):
        for file, headings in FILES.items():
            body = ast.parse((PACKAGE / (file + ".py")).read_text()).body
            classes = [node.name for node in body if isinstance(node, ast.ClassDef)]
            for heading in headings:
                with self.subTest(file=file, heading=heading):
                    name = heading.partition("(")[0]
                    if name in classes:
                        self.assertEqual(str(inspect.signature(getattr(importlib.import_module("everystart." + file), name))), heading[len(name):])
                    else:
                        self.assertEqual(defined(body, False)[name], heading)

    def test_each_method_stands_in_its_class(self):
        for (file, name), headings in METHODS.items():
            body = ast.parse((PACKAGE / (file + ".py")).read_text()).body
            found = defined([node for node in body if isinstance(node, ast.ClassDef) and node.name == name][0].body, True)
            for heading in headings:
                with self.subTest(file=file, heading=heading):
                    self.assertEqual(found[heading.partition("(")[0]], heading)


if __name__ == "__main__":
    unittest.main()
