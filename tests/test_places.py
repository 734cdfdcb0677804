"""Point 7, with point 2: places."""

import unittest

from shadowpages.errors import NoPlace
from shadowpages.places import number_of, parts_of, place_of
from things import LONG, NO_WHOLES

NO_PARTS = NO_WHOLES + (-1, -8, 8, 9, 64, 512, LONG, -LONG)
NO_PLACES = NO_WHOLES + (-1, -8, -512, 512, 513, 2 ** 48, LONG, -LONG)


class Places(unittest.TestCase):
    def test_all_places(self):
        place = 0
        for outer in range(8):
            for inner in range(8):
                for cell in range(8):
                    self.assertEqual(place_of(outer, inner, cell), place)
                    parts = parts_of(place)
                    self.assertIs(type(parts), tuple)
                    self.assertEqual(parts, (outer, inner, cell))
                    self.assertEqual(number_of(place), 8 * outer + inner)
                    place += 1
        self.assertEqual(place, 512)

    def test_edges(self):
        self.assertEqual(place_of(0, 0, 0), 0)
        self.assertEqual(place_of(7, 7, 7), 511)
        self.assertEqual(place_of(1, 0, 0), 64)
        self.assertEqual(place_of(0, 1, 0), 8)
        self.assertEqual(place_of(0, 0, 1), 1)
        self.assertEqual((number_of(0), number_of(7), number_of(8), number_of(511)), (0, 0, 1, 63))

    def test_by_their_arguments_names(self):
        self.assertEqual(place_of(outer=1, inner=2, cell=3), 83)
        self.assertEqual((parts_of(place=83), number_of(place=83)), ((1, 2, 3), 10))


class Refusals(unittest.TestCase):
    def test_one_wrong_part_at_each_seat(self):
        for part in NO_PARTS:
            for good in (0, 3, 7):
                for seat, parts in enumerate(((part, good, good), (good, part, good), (good, good, part))):
                    with self.subTest(kind=type(part).__name__, good=good, seat=seat):
                        self.assertRaises(NoPlace, place_of, *parts)

    def test_several_wrong_parts(self):
        for part in NO_PARTS:
            for other in (-1, 8, True, None, "7", [7]):
                for parts in ((part, other, 0), (part, 0, other), (0, part, other), (part, other, part)):
                    with self.subTest(kind=type(part).__name__, other=repr(other)):
                        self.assertRaises(NoPlace, place_of, *parts)

    def test_wrong_places(self):
        for place in NO_PLACES:
            for asked in (parts_of, number_of):
                with self.subTest(kind=type(place).__name__, asked=asked.__name__):
                    self.assertRaises(NoPlace, asked, place)

    def test_what_is_refused_is_not_changed(self):
        things = [1, [2]]
        self.assertRaises(NoPlace, place_of, things, 0, things)
        self.assertRaises(NoPlace, parts_of, things)
        self.assertRaises(NoPlace, number_of, things)
        self.assertEqual(things, [1, [2]])


if __name__ == "__main__":
    unittest.main()
