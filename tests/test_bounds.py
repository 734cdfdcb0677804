"""The bounds that the program keeps, against the document's points."""

import unittest

from shadowpages.bounds import WORDS


class Bounds(unittest.TestCase):
    def test_words(self):
        self.assertEqual(WORDS, 2 ** 48)


if __name__ == "__main__":
    unittest.main()
