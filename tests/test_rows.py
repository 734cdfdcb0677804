"""Point 6, with point 2: rows and their marks."""

import unittest

from shadowpages import rows
from shadowpages.errors import NoRow
from shadowpages.rows import has, marks_of, page_of, put, row_of, taken
from shadowpages.words import is_word
from things import LONG, NO_WHOLES

PAGES = (0, 1, 2, 3, 23, 24, 77, 255, 256, 257, 2 ** 20 + 5, 2 ** 39, 2 ** 40 - 2, 2 ** 40 - 1)
BITS = (1, 2, 4, 8, 16, 32, 64, 128)
NO_PAGES = NO_WHOLES + (-1, -77, 2 ** 40, 2 ** 40 + 1, 2 ** 48, LONG, -LONG)
NO_MARKS = NO_WHOLES + (-1, -77, 256, 257, 2 ** 40, LONG, -LONG)
SOME_ROWS = (0, 1, 255, 256, 77 * 256 + 19, 2 ** 47, 2 ** 48 - 256, 2 ** 48 - 1)


def bits_of(number):
    return [number // 2 ** at % 2 for at in range(48)]


class Marks(unittest.TestCase):
    def test_the_five(self):
        named = (rows.PRESENT, rows.WRITABLE, rows.KERNEL, rows.TOUCHED, rows.SOILED)
        self.assertEqual(named, (1, 2, 4, 8, 16))


class Making(unittest.TestCase):
    def test_every_mark_with_every_page(self):
        for page in PAGES:
            for marks in range(256):
                row = row_of(page, marks)
                self.assertEqual(row, 256 * page + marks)
                self.assertIs(is_word(row), True)
                self.assertEqual(page_of(row), page)
                self.assertEqual(marks_of(row), marks)

    def test_edges(self):
        for page, marks, row in (
            (0, 0, 0),
            (0, 1, 1),
            (0, 255, 255),
            (1, 0, 256),
            (1, 255, 511),
            (2 ** 40 - 1, 0, 2 ** 48 - 256),
            (2 ** 40 - 1, 1, 2 ** 48 - 255),
            (2 ** 40 - 1, 255, 2 ** 48 - 1),
        ):
            with self.subTest((page, marks)):
                self.assertEqual(row_of(page, marks), row)

    def test_by_its_arguments_names(self):
        self.assertEqual(row_of(page=3, marks=5), 773)
        self.assertEqual((page_of(row=773), marks_of(row=773)), (3, 5))
        self.assertEqual((put(row=773, marks=2), taken(row=773, marks=1)), (775, 772))
        self.assertIs(has(row=773, marks=5), True)

    def test_wrong_pages(self):
        for page in NO_PAGES:
            for marks in (0, 1, 77, 255):
                with self.subTest(kind=type(page).__name__, marks=marks):
                    self.assertRaises(NoRow, row_of, page, marks)

    def test_wrong_marks(self):
        for marks in NO_MARKS:
            for page in (0, 1, 77, 2 ** 40 - 1):
                with self.subTest(kind=type(marks).__name__, page=page):
                    self.assertRaises(NoRow, row_of, page, marks)

    def test_both_wrong(self):
        for page in NO_PAGES:
            for marks in NO_MARKS:
                with self.subTest(page=type(page).__name__, marks=type(marks).__name__):
                    self.assertRaises(NoRow, row_of, page, marks)

    def test_what_is_refused_is_not_changed(self):
        pages, marks = [1, [2]], {1: [2]}
        self.assertRaises(NoRow, row_of, pages, marks)
        self.assertRaises(NoRow, row_of, marks, pages)
        self.assertEqual((pages, marks), ([1, [2]], {1: [2]}))


class Reading(unittest.TestCase):
    def test_page_and_marks_make_the_row_again(self):
        for row in SOME_ROWS:
            with self.subTest(row):
                self.assertEqual(row_of(page_of(row), marks_of(row)), row)

    def test_edges(self):
        for row, page, marks in (
            (0, 0, 0), (255, 0, 255), (256, 1, 0), (2 ** 48 - 1, 2 ** 40 - 1, 255), (2 ** 47, 2 ** 39, 0),
        ):
            with self.subTest(row):
                self.assertEqual((page_of(row), marks_of(row)), (page, marks))


class Has(unittest.TestCase):
    def test_no_bits(self):
        for row in SOME_ROWS:
            with self.subTest(row):
                self.assertIs(has(row, 0), True)

    def test_all_bits(self):
        for marks in range(256):
            with self.subTest(marks):
                self.assertIs(has(row_of(77, marks), 255), marks == 255)

    def test_one_bit(self):
        for marks in range(256):
            for at, bit in enumerate(BITS):
                with self.subTest((marks, bit)):
                    self.assertIs(has(row_of(77, marks), bit), bits_of(marks)[at] == 1)

    def test_every_marks_against_every_other(self):
        for there in range(256):
            row = row_of(2 ** 40 - 1 - there, there)
            for asked in range(256):
                each = all(have >= want for have, want in zip(bits_of(there), bits_of(asked)))
                self.assertIs(has(row, asked), each)

    def test_the_pages_bits_are_no_marks(self):
        for bit in BITS:
            with self.subTest(bit):
                self.assertIs(has(row_of(2 ** 40 - 1, 0), bit), False)
                self.assertIs(has(row_of(bit, 0), bit), False)


class Changing(unittest.TestCase):
    def test_put_bit_by_bit(self):
        for page in (0, 77, 2 ** 40 - 1):
            for there in range(256):
                for marks in BITS + (0, 3, 24, 129, 254, 255):
                    row = put(row_of(page, there), marks)
                    self.assertEqual(page_of(row), page)
                    for at in range(8):
                        bit = max(bits_of(there)[at], bits_of(marks)[at])
                        self.assertEqual(bits_of(row)[at], bit)

    def test_taken_bit_by_bit(self):
        for page in (0, 77, 2 ** 40 - 1):
            for there in range(256):
                for marks in BITS + (0, 3, 24, 129, 254, 255):
                    row = taken(row_of(page, there), marks)
                    self.assertEqual(page_of(row), page)
                    for at in range(8):
                        bit = 0 if bits_of(marks)[at] else bits_of(there)[at]
                        self.assertEqual(bits_of(row)[at], bit)

    def test_edges(self):
        self.assertEqual(put(0, 255), 255)
        self.assertEqual(put(2 ** 48 - 256, 255), 2 ** 48 - 1)
        self.assertEqual(put(2 ** 48 - 1, 255), 2 ** 48 - 1)
        self.assertEqual(taken(2 ** 48 - 1, 255), 2 ** 48 - 256)
        self.assertEqual(taken(255, 255), 0)
        self.assertEqual(taken(0, 255), 0)

    def test_words_are_told(self):
        for row in SOME_ROWS:
            for marks in (0, 1, 16, 128, 255):
                with self.subTest((row, marks)):
                    self.assertIs(is_word(put(row, marks)), True)
                    self.assertIs(is_word(taken(row, marks)), True)


if __name__ == "__main__":
    unittest.main()
