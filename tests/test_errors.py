"""The interface, Stage 1, errors."""

import unittest

from shadowpages import errors
from shadowpages.errors import Fault, HouseError, NoProgram, NoText

OF_A_TEXT = (
    "NoWord", "NoRow", "NoPlace", "NoPage", "NoImage", "NoShelf", "NoFrame", "NoRoom", "NoBound", "NoName",
    "NoWay", "Busy", "Over", "NoOrder",
)
OF_A_PLACE = ("NoProgram", "NoText")
REFUSALS = OF_A_TEXT + OF_A_PLACE + ("Fault",)


class Classes(unittest.TestCase):
    def test_each_refusal_is_there(self):
        for name in REFUSALS + ("HouseError",):
            with self.subTest(name):
                self.assertIsInstance(getattr(errors, name, None), type)

    def test_house_error_stands_under_value_error(self):
        self.assertTrue(issubclass(HouseError, ValueError))

    def test_each_refusal_stands_under_house_error_and_value_error(self):
        for name in REFUSALS:
            with self.subTest(name):
                self.assertTrue(issubclass(getattr(errors, name), HouseError))
                self.assertTrue(issubclass(getattr(errors, name), ValueError))

    def test_no_refusal_stands_under_another_one(self):
        for name in REFUSALS:
            for other in REFUSALS:
                if other != name:
                    with self.subTest(f"{name} under {other}"):
                        self.assertFalse(issubclass(getattr(errors, name), getattr(errors, other)))

    def test_house_error_stands_under_no_refusal(self):
        for name in REFUSALS:
            with self.subTest(name):
                self.assertFalse(issubclass(HouseError, getattr(errors, name)))


class Making(unittest.TestCase):
    def test_of_a_text(self):
        for name in OF_A_TEXT + ("HouseError",):
            for text in ("", "refused"):
                with self.subTest(f"{name} of {text!r}"):
                    with self.assertRaises(HouseError) as caught:
                        raise getattr(errors, name)(text)
                    self.assertIs(type(caught.exception), getattr(errors, name))

    def test_of_a_place(self):
        for name in OF_A_PLACE:
            for place in (None, 0, 1, 59):
                with self.subTest(f"{name} of {place!r}"):
                    with self.assertRaises(ValueError) as caught:
                        raise getattr(errors, name)(place)
                    self.assertIs(type(caught.exception), getattr(errors, name))
                    self.assertEqual(caught.exception.place, place)

    def test_fault(self):
        for kind, place, level in (("far", 512, 0), ("absent", 0, 1), ("fixed", 2 ** 48 - 1, 2)):
            with self.subTest(kind):
                with self.assertRaises(HouseError) as caught:
                    raise Fault(kind, place, level)
                self.assertIs(type(caught.exception), Fault)
                self.assertEqual(caught.exception.kind, kind)
                self.assertEqual(caught.exception.place, place)
                self.assertEqual(caught.exception.level, level)

    def test_fault_by_its_arguments_names(self):
        fault = Fault(kind="kernel", place=77, level=2)
        self.assertEqual((fault.kind, fault.place, fault.level), ("kernel", 77, 2))

    def test_each_object_has_values_of_its_own(self):
        for one, other in ((NoProgram(1), NoProgram(2)), (NoText(1), NoText(2)), (Fault("far", 1, 0), Fault("far", 2, 0))):
            with self.subTest(type(one).__name__):
                self.assertEqual((one.place, other.place), (1, 2))
                self.assertNotIn("place", vars(type(one)))


if __name__ == "__main__":
    unittest.main()
