"""[A3] and the interface: the bounds, each by its name."""

import unittest

from everystart import bounds

BOUNDS = {
    "MAX_COUNTERS": 3,
    "MAX_NODES": 40,
    "MAX_NEST": 6,
    "MAX_NUMBER": 20,
    "MAX_TEST": 4,
    "MAX_SIDES": 6,
    "MAX_SIDE": 9,
    "MAX_END": 60,
    "MAX_ENDS": 2000,
    "MAX_TERMS": 5000,
    "MAX_ROUNDS": 12,
    "MAX_PARTS": 20,
    "MAX_FIGURES": 400,
    "MAX_EDITS": 40,
}


class BoundsTest(unittest.TestCase):
    def test_each_bound_has_its_value(self):
        for name, number in BOUNDS.items():
            with self.subTest(name=name):
                self.assertIs(type(getattr(bounds, name)), int)
                self.assertEqual(getattr(bounds, name), number)

    def test_no_other_bound_is_there(self):
        self.assertEqual({name for name in vars(bounds) if name.startswith("MAX_")}, set(BOUNDS))


if __name__ == "__main__":
    unittest.main()
