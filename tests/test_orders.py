"""Point 15, which tuples are rows of a program, and point 17, which programs and entries are refused."""

import unittest

from shadowpages.errors import HouseError, NoProgram
from shadowpages.orders import KINDS, checked, is_order
from things import LONG, NO_WHOLES, TOP, Prickly

GREATEST = {"register": 3, "word": TOP - 1, "at": 60}
ROWS = (
    ("set", "register", "word"), ("add", "register", "register"), ("both", "register", "register"),
    ("odd", "register", "register"), ("load", "register", "register"), ("save", "register", "register"),
    ("jump", "at"), ("nought", "register", "at"), ("tell", "register"), ("call",), ("halt",),
    ("peek", "register", "register"), ("poke", "register", "register"), ("root", "register"), ("drop", "register"),
    ("give", "register"), ("want", "register"), ("why", "register", "register"), ("back",), ("past",), ("user", "at"),
)
LEAST_ROWS = tuple((row[0],) + (0,) * (len(row) - 1) for row in ROWS)
GREATEST_ROWS = tuple((row[0],) + tuple(GREATEST[part] for part in row[1:]) for row in ROWS)
HALT = ("halt",)


def wrong_numbers(part):
    return NO_WHOLES + (-1, -TOP, GREATEST[part] + 1, GREATEST[part] + 2, TOP, LONG, -LONG)


def with_part(row, seat, thing):
    return row[:seat] + (thing,) + row[seat + 1:]


class IsOrder(unittest.TestCase):
    def test_each_row_with_its_least_and_greatest_numbers(self):
        for row in LEAST_ROWS + GREATEST_ROWS:
            with self.subTest(row):
                self.assertIs(is_order(row), True)

    def test_each_number_between(self):
        for row in ROWS:
            for seat, part in enumerate(row[1:], start=1):
                numbers = range(GREATEST[part] + 1) if part != "word" else (0, 1, 4, 61, 2 ** 40, TOP - 2, TOP - 1)
                for number in numbers:
                    for other in (LEAST_ROWS[ROWS.index(row)], GREATEST_ROWS[ROWS.index(row)]):
                        self.assertIs(is_order(with_part(other, seat, number)), True)

    def test_each_number_wrong(self):
        for row in ROWS:
            for seat, part in enumerate(row[1:], start=1):
                for thing in wrong_numbers(part):
                    for other in (LEAST_ROWS[ROWS.index(row)], GREATEST_ROWS[ROWS.index(row)]):
                        self.assertIs(is_order(with_part(other, seat, thing)), False)

    def test_the_numbers_that_the_document_names(self):
        for wrong in (
            ("set", -1, 0), ("set", 4, 0), ("set", True, 0), ("set", None, 0), ("set", 0, -1), ("set", 0, TOP),
            ("set", 0, True), ("add", 0, 4), ("add", 4, 0), ("load", 0, -1), ("save", False, 0), ("jump", -1),
            ("jump", 61), ("jump", True), ("nought", 4, 0), ("nought", 0, 61), ("user", -1), ("user", 61),
            ("user", False), ("tell", 4), ("why", 0, 4), ("root", 60), ("want", -1),
        ):
            with self.subTest(wrong):
                self.assertIs(is_order(wrong), False)

    def test_too_few_and_too_many_parts(self):
        for row in LEAST_ROWS + GREATEST_ROWS:
            few = [row[:many] for many in range(len(row))]
            for wrong in few + [row + (0,), row + (0, 0), row + (None,), row + row]:
                with self.subTest(wrong):
                    self.assertIs(is_order(wrong), False)

    def test_another_word(self):
        for word in (
            "", "Set", "SET", "set ", " set", "sett", "se", "move", "load\n", "nop", "a", "word", "register", "at",
            "told", "fault", "sub", "turn_root", "reach", "far", "kernel",
        ):
            for numbers in ((), (0,), (0, 0), (0, 0, 0)):
                with self.subTest(word=word, numbers=numbers):
                    self.assertIs(is_order((word,) + numbers), False)

    def test_the_first_part_no_text(self):
        for thing in NO_WHOLES + (0, 1, 60, LONG, ("halt",), ["halt"], b"halt", {"halt": 1}, Prickly()):
            for numbers in ((), (0,), (0, 0)):
                self.assertIs(is_order((thing,) + numbers), False)

    def test_no_tuple(self):
        for thing in NO_WHOLES + (0, LONG, "halt", "set 0 0", ["halt"], ["set", 0, 0], {"halt": 0}, b"halt", {"halt"}):
            with self.subTest(type(thing).__name__):
                self.assertIs(is_order(thing), False)
        for row in LEAST_ROWS:
            self.assertIs(is_order(list(row)), False)
            self.assertIs(is_order((row,)), False)
            self.assertIs(is_order((list(row),)), False)

    def test_no_parts(self):
        self.assertIs(is_order(()), False)

    def test_by_its_arguments_name(self):
        self.assertIs(is_order(thing=HALT), True)


class Checked(unittest.TestCase):
    def refused(self, place, program, entry):
        with self.assertRaises(HouseError) as caught:
            checked(program, entry)
        self.assertIs(type(caught.exception), NoProgram)
        self.assertIs(type(caught.exception.place), type(place))
        self.assertEqual(caught.exception.place, place)

    def test_good_ones(self):
        for many in (1, 2, 59, 60):
            for entry in (0, 1, 30, 59, 60):
                self.assertIsNone(checked([HALT] * many, entry))
        self.assertIsNone(checked(list(LEAST_ROWS + GREATEST_ROWS), 60))

    def test_by_its_arguments_names(self):
        self.assertIsNone(checked(program=[HALT], entry=0))

    def test_no_list(self):
        no_lists = [thing for thing in NO_WHOLES if not isinstance(thing, list)]
        for program in no_lists + [0, 1, LONG, HALT, (HALT,), {0: HALT}, {HALT}, "halt"]:
            for entry in (0, 60, 61, None):
                self.refused(None, program, entry)

    def test_too_few_and_too_many_rows(self):
        for entry in (0, 60, 61, -1, None):
            self.refused(None, [], entry)
            for many in (61, 62, 100):
                self.refused(None, [HALT] * many, entry)
                self.refused(None, [None] * many, entry)
                self.refused(None, [HALT] * 60 + [None] * (many - 60), entry)

    def test_the_first_wrong_row(self):
        for wrong in (None, (), ["halt"], ("set", 0, TOP), ("jump", 61), ("halt", 0), "halt", 0, True, Prickly()):
            for many in (1, 2, 60):
                for place in range(many):
                    program = [HALT] * place + [wrong] + [HALT] * (many - place - 1)
                    for entry in (0, 60, 61, -1, True, None, Prickly()):
                        self.refused(place, program, entry)

    def test_several_wrong_rows(self):
        self.refused(1, [HALT, None, HALT, (), 0], 0)
        self.refused(0, [None] * 60, 61)
        self.refused(58, [HALT] * 58 + [None] * 2, 0)

    def test_a_wrong_entry_where_all_rows_are_good(self):
        for entry in NO_WHOLES + (-1, -60, 61, 62, TOP, LONG, -LONG):
            self.refused(None, [HALT], entry)
            self.refused(None, [HALT] * 60, entry)

    def test_what_is_handed_in_stays(self):
        good, wrong = list(GREATEST_ROWS), [HALT, ["halt"], None]
        checked(good, 0)
        self.refused(1, wrong, 0)
        self.assertEqual(good, list(GREATEST_ROWS))
        self.assertEqual(wrong, [HALT, ["halt"], None])


class Kinds(unittest.TestCase):
    def test_as_the_interface_has_them(self):
        self.assertIs(type(KINDS), tuple)
        self.assertEqual(KINDS, ("far", "absent", "beyond", "kernel", "fixed", "deed", "call"))


if __name__ == "__main__":
    unittest.main()
