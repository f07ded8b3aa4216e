"""The limits of the document have the numbers that its points tell."""

import unittest

from offscale import bounds

NUMBERS = {
    "MAX_TURNS": 3,
    "MAX_SCALES": 6,
    "MAX_STEPS": 10,
    "MAX_DEPTH": 2,
    "MAX_OPERANDS": 3,
    "MAX_FACTOR": 3,
    "MAX_FEATURES": 6,
    "MAX_DEEDS": 30,
}


class BoundsTest(unittest.TestCase):
    def test_numbers(self):
        for name, number in NUMBERS.items():
            with self.subTest(name=name):
                self.assertEqual(getattr(bounds, name), number)

    def test_kinds(self):
        for name in NUMBERS:
            with self.subTest(name=name):
                self.assertIs(type(getattr(bounds, name)), int)


if __name__ == "__main__":
    unittest.main()
