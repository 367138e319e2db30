"""The whole numbers of dozehall.kinds."""

import unittest

from dozehall import kinds
from dozehall.kinds import ALL, EVERY, MOST, TURNS


class Kinds(unittest.TestCase):
    def test_values(self):
        self.assertEqual((ALL, EVERY, MOST, TURNS), (255, 1000, 2000, 4000))

    def test_whole_numbers_and_no_truths(self):
        for name in ("ALL", "EVERY", "MOST", "TURNS"):
            with self.subTest(name=name):
                self.assertIs(type(getattr(kinds, name)), int)


if __name__ == "__main__":
    unittest.main()
