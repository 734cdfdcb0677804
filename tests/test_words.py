"""Point 5, with point 2: words."""

import unittest

from shadowpages.errors import NoWord
from shadowpages.words import both, is_below, is_whole, is_word, odd, plus, word_of
from things import NO_WHOLES

TOP = 2 ** 48
LONG = 123456789012345678901234567890123456789012345678901234567890
WORDS = (0, 1, 2, 77, 255, 256, TOP // 2, TOP - 2, TOP - 1)
NO_WORDS = (-1, -77, -TOP, -TOP - 1, TOP, TOP + 1, 2 * TOP, LONG, -LONG)


class Wholes(unittest.TestCase):
    def test_whole_numbers(self):
        for number in WORDS + NO_WORDS:
            with self.subTest(number):
                self.assertIs(is_whole(number), True)

    def test_other_things(self):
        for thing in NO_WHOLES:
            with self.subTest(repr(thing)):
                self.assertIs(is_whole(thing), False)


class Words(unittest.TestCase):
    def test_words(self):
        for number in WORDS:
            with self.subTest(number):
                self.assertIs(is_word(number), True)

    def test_whole_numbers_that_are_no_words(self):
        for number in NO_WORDS:
            with self.subTest(number):
                self.assertIs(is_word(number), False)

    def test_other_things(self):
        for thing in NO_WHOLES:
            with self.subTest(repr(thing)):
                self.assertIs(is_word(thing), False)


class Below(unittest.TestCase):
    def test_whole_numbers(self):
        for bound in (1, 2, 8, 512, TOP):
            for number, answer in ((-1, False), (0, True), (bound - 1, True), (bound, False), (bound + 1, False)):
                with self.subTest((number, bound)):
                    self.assertIs(is_below(number, bound), answer)

    def test_nothing_is_below_0(self):
        self.assertIs(is_below(0, 0), False)

    def test_other_things(self):
        for thing in NO_WHOLES:
            with self.subTest(repr(thing)):
                self.assertIs(is_below(thing, 8), False)


class WordOf(unittest.TestCase):
    def test_a_word_is_its_own(self):
        for number in WORDS:
            with self.subTest(number):
                self.assertEqual(word_of(number), number)

    def test_edges(self):
        for number, word in (
            (-1, TOP - 1),
            (TOP, 0),
            (TOP + 1, 1),
            (TOP - 1, TOP - 1),
            (-TOP, 0),
            (-TOP - 1, TOP - 1),
            (-TOP + 1, 1),
            (3 * TOP + 77, 77),
            (-3 * TOP + 77, 77),
            (-3 * TOP - 77, TOP - 77),
        ):
            with self.subTest(number):
                self.assertEqual(word_of(number), word)

    def test_long_numbers(self):
        for number in (LONG, -LONG, 10 ** 60, -(10 ** 60), 10 ** 60 - 1, 1 - 10 ** 60, TOP ** 5, -(TOP ** 5)):
            with self.subTest(number):
                word = word_of(number)
                self.assertIs(is_word(word), True)
                self.assertEqual((number - word) % TOP, 0)

    def test_numbers_of_4000_figures(self):
        for number in (10 ** 4000 - 1, 1 - 10 ** 4000):
            word = word_of(number)
            self.assertIs(is_word(word), True)
            self.assertEqual((number - word) % TOP, 0)

    def test_other_things_are_refused(self):
        for thing in NO_WHOLES:
            with self.subTest(repr(thing)):
                self.assertRaises(NoWord, word_of, thing)

    def test_what_is_refused_is_not_changed(self):
        rows, names = [1, [2, 3]], {"one": [1]}
        for thing in (rows, names):
            self.assertRaises(NoWord, word_of, thing)
            self.assertIs(is_whole(thing), False)
            self.assertIs(is_word(thing), False)
        self.assertEqual(rows, [1, [2, 3]])
        self.assertEqual(names, {"one": [1]})


class Pairs(unittest.TestCase):
    def test_plus(self):
        for one, other, word in (
            (0, 0, 0),
            (3, 4, 7),
            (TOP - 2, 1, TOP - 1),
            (TOP - 1, 0, TOP - 1),
            (TOP - 1, 1, 0),
            (TOP - 1, 2, 1),
            (TOP // 2, TOP // 2, 0),
            (TOP // 2, TOP // 2 + 5, 5),
            (TOP - 1, TOP - 1, TOP - 2),
        ):
            with self.subTest((one, other)):
                self.assertEqual(plus(one, other), word)
                self.assertEqual(plus(other, one), word)

    def test_both(self):
        for one, other, word in (
            (0, 0, 0),
            (12, 10, 8),
            (TOP - 1, 0, 0),
            (TOP - 1, 77, 77),
            (TOP - 1, TOP - 1, TOP - 1),
            (TOP // 2, TOP - 1, TOP // 2),
            (TOP // 2, TOP // 2 - 1, 0),
        ):
            with self.subTest((one, other)):
                self.assertEqual(both(one, other), word)
                self.assertEqual(both(other, one), word)

    def test_odd(self):
        for one, other, word in (
            (0, 0, 0),
            (12, 10, 6),
            (77, 0, 77),
            (TOP - 1, 0, TOP - 1),
            (TOP - 1, TOP - 1, 0),
            (TOP - 1, TOP // 2, TOP // 2 - 1),
            (TOP // 2, TOP // 2 - 1, TOP - 1),
        ):
            with self.subTest((one, other)):
                self.assertEqual(odd(one, other), word)
                self.assertEqual(odd(other, one), word)

    def test_single_bits(self):
        for high in range(48):
            for low in range(high):
                one, other = 2 ** high, 2 ** low
                self.assertEqual(both(one, other), 0)
                self.assertEqual(odd(one, other), one + other)
                self.assertEqual(plus(one, other), one + other)
            bit = 2 ** high
            self.assertEqual(both(bit, bit), bit)
            self.assertEqual(odd(bit, bit), 0)
            self.assertEqual(both(bit, TOP - 1), bit)
            self.assertEqual(odd(bit, TOP - 1), TOP - 1 - bit)

    def test_bit_by_bit(self):
        for one in WORDS:
            for other in WORDS:
                with self.subTest((one, other)):
                    bits = [(one // 2 ** at % 2, other // 2 ** at % 2) for at in range(48)]
                    shared = sum(2 ** at for at, pair in enumerate(bits) if pair == (1, 1))
                    single = sum(2 ** at for at, pair in enumerate(bits) if sum(pair) == 1)
                    self.assertEqual(both(one, other), shared)
                    self.assertEqual(odd(one, other), single)

    def test_words_are_told(self):
        for one in WORDS:
            for other in WORDS:
                for made in (plus, both, odd):
                    with self.subTest((made.__name__, one, other)):
                        self.assertIs(is_word(made(one, other)), True)


if __name__ == "__main__":
    unittest.main()
