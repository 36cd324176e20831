"""Point 25: the bounds."""

import unittest

from lateposts import bounds

TOLD = {
    "MAX_BOUND": 6,
    "MAX_STATES": 4,
    "MAX_ROWS": 6,
    "MAX_PLACES": 56,
    "MAX_LOG": 40,
    "MAX_DEEDS": 60,
    "MAX_ROW": 20,
}


class BoundsTest(unittest.TestCase):
    def test_bounds_are_the_told_integers(self):
        for name, number in TOLD.items():
            with self.subTest(name):
                self.assertIs(getattr(bounds, name).__class__, int)
                self.assertEqual(getattr(bounds, name), number)


if __name__ == "__main__":
    unittest.main()
