"""[A3] and the interface: the errors."""

import copy
import pickle
import unittest

from everystart import errors

FIELDS = {
    "Unfit": None,
    "BadText": None,
    "Never": None,
    "BadProgram": "error",
    "BadBook": "error",
    "NoName": "given",
    "TooMany": "limit",
    "TooManyEdits": None,
    "NothingToUndo": None,
    "NothingToRedo": None,
    "NoVersion": "given",
    "BadLog": "place",
}
PLAIN = [name for name, field in FIELDS.items() if field is None]
TELLING = [(name, field) for name, field in FIELDS.items() if field is not None]


def values():
    """Return one value of each kind, and some nested ones."""
    return [
        None, True, False, 0, 1, -7, 10 ** 399, 10 ** 9000, "", "x y\n", "{} 5", (), (1, (True, None)),
        [], [1, [2]], {}, {"a": [1]}, {(1, 2): {}}, ("form", 10 ** 9000), errors.Unfit(), errors.TooMany(3),
    ]


class ErrorsTest(unittest.TestCase):
    def test_throw_error_is_a_value_error(self):
        self.assertEqual(errors.ThrowError.__bases__, (ValueError,))

    def test_all_are_directly_under_throw_error(self):
        for name in FIELDS:
            with self.subTest(name=name):
                made = getattr(errors, name)
                self.assertEqual(made.__name__, name)
                self.assertEqual(made.__bases__, (errors.ThrowError,))
                self.assertTrue(issubclass(made, ValueError))

    def test_none_is_another_one(self):
        classes = [getattr(errors, name) for name in FIELDS]
        for one in classes:
            self.assertEqual([other for other in classes if issubclass(one, other)], [one])

    def test_no_other_error_is_there(self):
        found = {name for name, value in vars(errors).items() if isinstance(value, type)}
        self.assertEqual(found, set(FIELDS) | {"ThrowError"})

    def test_plain_ones_are_made_of_nothing_and_keep_nothing(self):
        for name in PLAIN:
            with self.subTest(name=name):
                self.assertEqual(vars(getattr(errors, name)()), {})

    def test_the_others_keep_what_was_passed_by_place(self):
        for name, field in TELLING:
            for value in values():
                with self.subTest(name=name, kind=type(value)):
                    made = getattr(errors, name)(value)
                    self.assertEqual(list(vars(made)), [field])
                    self.assertIs(getattr(made, field), value)

    def test_the_others_keep_what_was_passed_by_name(self):
        for name, field in TELLING:
            for value in values():
                with self.subTest(name=name, kind=type(value)):
                    made = getattr(errors, name)(**{field: value})
                    self.assertEqual(list(vars(made)), [field])
                    self.assertIs(getattr(made, field), value)

    def test_what_is_kept_is_not_changed(self):
        for name, field in TELLING:
            for value, alike in zip(values()[:-2], values()[:-2]):
                getattr(errors, name)(value)
                getattr(errors, name)(**{field: value})
                self.assertEqual(value, alike)

    def test_the_others_are_not_made_without_their_argument(self):
        for name, field in TELLING:
            with self.subTest(name=name):
                made = getattr(errors, name)
                self.assertRaises(TypeError, made)
                self.assertRaises(TypeError, made, 1, 2)
                self.assertRaises(TypeError, lambda: made(other=1))

    def test_each_is_raised_and_caught_as_all_that_it_is(self):
        for name, field in FIELDS.items():
            made = getattr(errors, name)
            for caught in (made, errors.ThrowError, ValueError):
                with self.subTest(name=name, caught=caught.__name__), self.assertRaises(caught):
                    raise made() if field is None else made(5)

    def test_each_can_be_shown_and_copied_whatever_it_keeps(self):
        for name, field in TELLING:
            for made in (getattr(errors, name)(10 ** 9000), getattr(errors, name)(**{field: 10 ** 9000})):
                with self.subTest(name=name):
                    self.assertIsInstance(str(made), str)
                    self.assertIsInstance(repr(made), str)
                    for other in (copy.copy(made), copy.deepcopy(made), pickle.loads(pickle.dumps(made))):
                        self.assertIs(type(other), type(made))
                        self.assertEqual(vars(other), vars(made))
        for name in PLAIN:
            made = getattr(errors, name)()
            self.assertIs(type(copy.deepcopy(made)), type(made))


if __name__ == "__main__":
    unittest.main()
