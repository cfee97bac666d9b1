"""Whether two values are the same, also in the kinds of all that they hold."""

import unittest


def same(one, other):
    """Return whether both are equal, with True apart from 1 and a list apart from a tuple."""
    if type(one) is not type(other):
        return False
    if isinstance(one, (tuple, list)):
        return len(one) == len(other) and all(same(item, like) for item, like in zip(one, other))
    if isinstance(one, dict):
        return same(list(one.items()), list(other.items()))
    return one == other


def shown(value):
    """Return a short text of value, also where it holds integers that Python does not write."""
    try:
        return repr(value)[:200]
    except (ValueError, RecursionError):
        return "what can not be written"


class KindsCase(unittest.TestCase):
    def check_same(self, found, told):
        """Check that found is told, and of the same kinds throughout."""
        if not same(found, told):
            self.fail(shown(found) + " is not " + shown(told))
