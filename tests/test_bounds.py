"""The constants of points 8, 37, 48 and 52."""

import unittest

from poolmarks import bounds

VALUES = {
    "ITEMS": 8,
    "RULES": 16,
    "MARK": 1000000000,
    "WEIGHT": 1000000,
    "ROW": 40,
    "ACTIONS": 60,
    "BATCH": 20,
}


class TestBounds(unittest.TestCase):
    def test_each_constant_has_its_value(self):
        for name, value in VALUES.items():
            with self.subTest(name=name):
                self.assertEqual(getattr(bounds, name), value)
                self.assertIs(type(getattr(bounds, name)), int)

    def test_there_is_no_other_constant(self):
        names = {name for name in vars(bounds) if not name.startswith("_")}
        self.assertEqual(names, set(VALUES))


if __name__ == "__main__":
    unittest.main()
