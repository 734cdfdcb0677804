"""The bounds that the program keeps, against the document's points."""

import unittest

from shadowpages.bounds import CELLS, MARKS, MOST_PAGES, PAGES, PARTS, PLACES, WORDS
from shadowpages.bounds import ENTRIES, FRAMES, ORDERS, REGISTERS, SEATS, STEPS


class Bounds(unittest.TestCase):
    def test_words(self):
        self.assertEqual(WORDS, 2 ** 48)

    def test_rows(self):
        self.assertEqual(PAGES, 2 ** 40)
        self.assertEqual(MARKS, 2 ** 8)
        self.assertEqual(PAGES * MARKS, WORDS)

    def test_places(self):
        self.assertEqual(PARTS, 8)
        self.assertEqual(PLACES, 8 * 8 * 8)

    def test_pages(self):
        self.assertEqual(CELLS, 8)
        self.assertEqual(MOST_PAGES, 24)

    def test_shelves(self):
        self.assertEqual(SEATS, 12)

    def test_programs(self):
        self.assertEqual(REGISTERS, 4)
        self.assertEqual(ORDERS, 60)
        self.assertEqual(ENTRIES, ORDERS + 1)

    def test_turns(self):
        self.assertEqual(STEPS, 500 + 1)

    def test_frames(self):
        self.assertEqual(FRAMES, 200)


if __name__ == "__main__":
    unittest.main()
