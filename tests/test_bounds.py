"""The limits (point 4)."""

import unittest

from savelines import bounds


class BoundsTest(unittest.TestCase):
    def test_values(self):
        limits = (bounds.MAX_PROCESSES, bounds.MAX_MESSAGES, bounds.MAX_EVENTS)
        self.assertEqual(limits, (6, 24, 60))

    def test_kinds(self):
        for limit in (bounds.MAX_PROCESSES, bounds.MAX_MESSAGES, bounds.MAX_EVENTS):
            self.assertIs(type(limit), int)


if __name__ == "__main__":
    unittest.main()
