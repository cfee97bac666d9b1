"""Whether two values are the same, also in the kinds of all that they hold."""

import copy
import inspect
import unittest


def same(one, other):
    """Return whether both are equal, with True apart from 1 and a list apart from a tuple."""
    if type(one) is not type(other):
        return False
    if isinstance(one, (tuple, list)):
        return len(one) == len(other) and all(same(item, like) for item, like in zip(one, other))
    if isinstance(one, dict):
        return same(list(one.items()), list(other.items()))
    return one == other


def shown(value):
    """Return a short text of value, also where it holds integers that Python does not write."""
    try:
        return repr(value)[:200]
    except (ValueError, RecursionError):
        return "what can not be written"


class KindsCase(unittest.TestCase):
    def check_same(self, found, told):
        """Check that found is told, and of the same kinds throughout."""
        if not same(found, told):
            self.fail(shown(found) + " is not " + shown(told))

    def check_calls(self, module, calls):
        """Check that each function stands in module, and tells the same by place and by name, twice, its arguments unchanged.

        calls are rows of the function's name, the names of its arguments, the arguments and what comes of them.
        """
        for name, names, arguments, told in calls:
            with self.subTest(name=name):
                function = getattr(module, name)
                self.assertEqual(function.__module__, module.__name__)
                self.assertEqual(list(inspect.signature(function).parameters), names)
                before = copy.deepcopy(arguments)
                for _ in range(2):
                    self.check_same(function(*arguments), told)
                    self.check_same(function(**dict(zip(reversed(names), reversed(arguments)))), told)
                self.assertTrue(same(arguments, before))

    def check_raises(self, awaited, function, *arguments, **named):
        """Check that function raises an error of just the class of awaited, with equal fields, twice."""
        for _ in range(2):
            with self.assertRaises(type(awaited)) as caught:
                function(*arguments, **named)
            self.assertIs(type(caught.exception), type(awaited))
            self.check_same(list(vars(caught.exception).items()), list(vars(awaited).items()))
