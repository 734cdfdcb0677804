"""Point 12, with points 2 and 3: the shelf."""

import random
import unittest

from shadowpages.errors import HouseError, NoShelf
from shadowpages.shelf import Shelf
from things import LONG, NO_WHOLES

SIZES = range(1, 13)


def filled(most, many):
    """A shelf with rows for the numbers 0, 1 .. in this order."""
    shelf = Shelf(most)
    for number in range(many):
        shelf.keep(number, 100 + number, 2)
    return shelf


def rows(*numbers):
    return [(number, 100 + number, 2) for number in numbers]


class Making(unittest.TestCase):
    def test_a_new_one(self):
        for most in SIZES:
            with self.subTest(most):
                shelf = Shelf(most)
                self.assertEqual(shelf.told(), [])
                self.assertEqual([shelf.seek(number) for number in range(64)], [None] * 64)

    def test_by_its_arguments_name(self):
        self.assertEqual(Shelf(most=1).told(), [])

    def test_of_anything_else(self):
        for most in NO_WHOLES + (0, 13, 14, 24, -1, -12, LONG, -LONG, "1", "12", [1], (12,), {1: 1}):
            with self.subTest(kind=type(most).__name__):
                with self.assertRaises(HouseError) as caught:
                    Shelf(most)
                self.assertIs(type(caught.exception), NoShelf)


class Keeping(unittest.TestCase):
    def test_as_many_as_there_is_room_for(self):
        for most in SIZES:
            shelf = Shelf(most)
            for number in range(most):
                self.assertIsNone(shelf.keep(number, 100 + number, 2))
                self.assertEqual(shelf.told(), rows(*range(number + 1)))

    def test_too_many_put_the_oldest_one_out(self):
        for most in SIZES:
            shelf = filled(most, most)
            for number in range(most, 64):
                self.assertEqual(shelf.keep(number, 100 + number, 2), number - most)
                self.assertEqual(shelf.told(), rows(*range(number - most + 1, number + 1)))

    def test_the_number_put_out_may_be_nought(self):
        shelf = Shelf(1)
        shelf.keep(0, 5, 2)
        put_out = shelf.keep(1, 6, 2)
        self.assertIs(type(put_out), int)
        self.assertEqual(put_out, 0)

    def test_a_number_that_is_there_stays_at_its_seat(self):
        for most in SIZES:
            for number in range(most):
                shelf, wanted = filled(most, most), rows(*range(most))
                wanted[number] = (number, 7, 18)
                self.assertIsNone(shelf.keep(number, 7, 18))
                self.assertEqual(shelf.told(), wanted)
                self.assertEqual(shelf.seek(number), (7, 18))

    def test_a_row_put_anew_grows_no_younger(self):
        shelf = filled(3, 3)
        self.assertIsNone(shelf.keep(0, 7, 18))
        self.assertEqual(shelf.keep(9, 109, 2), 0)
        self.assertEqual(shelf.told(), rows(1, 2, 9))

    def test_the_same_row_again(self):
        shelf = filled(3, 3)
        self.assertIsNone(shelf.keep(1, 101, 2))
        self.assertEqual(shelf.told(), rows(0, 1, 2))

    def test_put_out_and_kept_again(self):
        shelf = filled(2, 2)
        self.assertEqual(shelf.keep(2, 102, 2), 0)
        self.assertEqual(shelf.keep(0, 100, 2), 1)
        self.assertEqual(shelf.told(), rows(2, 0))

    def test_numbers_need_not_rise(self):
        shelf = Shelf(4)
        for number in (63, 0, 30, 7):
            self.assertIsNone(shelf.keep(number, 100 + number, 2))
        self.assertEqual(shelf.told(), rows(63, 0, 30, 7))
        self.assertEqual(shelf.keep(1, 101, 2), 63)

    def test_any_page_and_rights(self):
        shelf = Shelf(12)
        for number, rights in enumerate((0, 2, 4, 6, 16, 18, 20, 22)):
            shelf.keep(number, 2 ** 40 - 1 - number, rights)
            self.assertEqual(shelf.seek(number), (2 ** 40 - 1 - number, rights))

    def test_by_its_arguments_names(self):
        shelf = Shelf(1)
        self.assertIsNone(shelf.keep(number=3, page=103, rights=2))
        self.assertEqual(shelf.seek(number=3), (103, 2))
        self.assertIs(shelf.drop(number=3), True)


class Seeking(unittest.TestCase):
    def test_what_is_there_and_what_is_not(self):
        shelf = filled(3, 5)
        self.assertEqual([shelf.seek(number) for number in range(6)], [None, None, (102, 2), (103, 2), (104, 2), None])
        self.assertIs(type(shelf.seek(2)), tuple)

    def test_never_changes_the_order(self):
        shelf = filled(3, 3)
        for number in (0, 0, 2, 1, 0, 63):
            shelf.seek(number)
            self.assertEqual(shelf.told(), rows(0, 1, 2))
        self.assertEqual(shelf.keep(3, 103, 2), 0)


class Dropping(unittest.TestCase):
    def test_true_then_false(self):
        for number in range(4):
            shelf = filled(4, 4)
            self.assertIs(shelf.drop(number), True)
            self.assertEqual(shelf.told(), rows(*[other for other in range(4) if other != number]))
            self.assertIsNone(shelf.seek(number))
            self.assertIs(shelf.drop(number), False)
            self.assertEqual(shelf.told(), rows(*[other for other in range(4) if other != number]))

    def test_of_a_number_that_was_never_there(self):
        shelf = filled(4, 4)
        self.assertIs(shelf.drop(4), False)
        self.assertEqual(shelf.told(), rows(0, 1, 2, 3))
        self.assertIs(Shelf(1).drop(0), False)

    def test_makes_room(self):
        shelf = filled(3, 3)
        shelf.drop(1)
        self.assertIsNone(shelf.keep(3, 103, 2))
        self.assertEqual(shelf.told(), rows(0, 2, 3))
        self.assertEqual(shelf.keep(4, 104, 2), 0)

    def test_dropped_and_kept_again_is_the_newest(self):
        shelf = filled(3, 3)
        shelf.drop(0)
        self.assertIsNone(shelf.keep(0, 100, 2))
        self.assertEqual(shelf.told(), rows(1, 2, 0))

    def test_all(self):
        for most in SIZES:
            shelf = filled(most, most)
            self.assertIsNone(shelf.empty())
            self.assertEqual(shelf.told(), [])
            self.assertIsNone(shelf.seek(0))
            self.assertIsNone(shelf.empty())
            for number in range(most):
                self.assertIsNone(shelf.keep(number, 100 + number, 2))
            self.assertEqual(shelf.keep(most, 100 + most, 2), 0)


class Told(unittest.TestCase):
    def test_as_tuples_in_a_list(self):
        told = filled(3, 4).told()
        self.assertIs(type(told), list)
        self.assertEqual([type(row) for row in told], [tuple] * 3)
        self.assertEqual(told, rows(1, 2, 3))

    def test_a_told_list_changed_behind(self):
        shelf = filled(3, 3)
        told = shelf.told()
        told[0] = (9, 9, 9)
        told.pop()
        told.reverse()
        self.assertEqual(shelf.told(), rows(0, 1, 2))
        told.clear()
        self.assertEqual(shelf.seek(0), (100, 2))
        self.assertIsNot(shelf.told(), shelf.told())

    def test_a_told_list_stays(self):
        shelf = filled(3, 3)
        told = shelf.told()
        shelf.keep(0, 7, 18)
        shelf.keep(3, 103, 2)
        shelf.drop(2)
        self.assertEqual(told, rows(0, 1, 2))
        shelf.empty()
        self.assertEqual(told, rows(0, 1, 2))

    def test_two_beside_each_other(self):
        one, other = filled(3, 3), Shelf(3)
        self.assertEqual(other.told(), [])
        other.keep(0, 7, 18)
        one.drop(1)
        self.assertEqual((one.told(), other.told()), (rows(0, 2), [(0, 7, 18)]))
        one.empty()
        self.assertEqual((one.told(), other.told()), ([], [(0, 7, 18)]))


class Mixed(unittest.TestCase):
    def kept(self, wanted, most, row):
        """The list of rows behind a keep, and what the keep tells."""
        numbers = [other[0] for other in wanted]
        if row[0] in numbers:
            seat = numbers.index(row[0])
            return wanted[:seat] + [row] + wanted[seat + 1:], None
        if len(wanted) == most:
            return wanted[1:] + [row], numbers[0]
        return wanted + [row], None

    def test_against_a_list(self):
        for most in SIZES:
            dice, shelf, wanted = random.Random(most), Shelf(most), []
            for step in range(400):
                number, deed = dice.randrange(16), dice.randrange(20)
                if deed < 12:
                    row = (number, dice.randrange(24), dice.randrange(0, 24, 2))
                    wanted, told = self.kept(wanted, most, row)
                    self.assertEqual(shelf.keep(*row), told)
                elif deed < 19:
                    there = number in [row[0] for row in wanted]
                    self.assertIs(shelf.drop(number), there)
                    wanted = [row for row in wanted if row[0] != number]
                else:
                    shelf.empty()
                    wanted = []
                self.assertEqual(shelf.told(), wanted)
                found = {row[0]: row[1:] for row in wanted}
                self.assertEqual([shelf.seek(each) for each in range(16)], [found.get(each) for each in range(16)])


if __name__ == "__main__":
    unittest.main()
