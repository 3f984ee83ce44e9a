"""[91]: the nine limits."""

import unittest

from linestream import limits

LIMITS = {
    "MAX_WORD": 8,
    "MAX_LINE": 20,
    "MAX_DEPTH": 8,
    "MAX_COMMANDS": 12,
    "MAX_ROOM": 3,
    "MAX_CLASSES": 32,
    "MAX_BLOCKS": 10,
    "MAX_LINES": 4,
    "MAX_TIMES": 1000000000000000000000000000000,
}


class LimitsTest(unittest.TestCase):
    def test_each_limit(self):
        for name, limit in LIMITS.items():
            with self.subTest(name=name):
                self.assertEqual(getattr(limits, name), limit)
                self.assertIs(type(getattr(limits, name)), int)

    def test_there_are_no_others(self):
        self.assertEqual(sorted(name for name in vars(limits) if not name.startswith("_")), sorted(LIMITS))


if __name__ == "__main__":
    unittest.main()
