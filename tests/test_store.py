"""Point 8, with points 2 and 3: stores, memories, pages."""

import unittest

from shadowpages.errors import HouseError, NoImage, NoPage, NoPlace, NoWord
from shadowpages.store import Memory, Store
from things import LONG, NO_CELLS, NO_WHOLES, NO_WORDS, TOP, Prickly, no_numbers

NOUGHTS = [0] * 8
COUNTED = [11, 12, 13, 14, 15, 16, 17, 18]
HIGH = [TOP - 1] * 8


def no_eights():
    """What is no list of eight words, of many kinds."""
    wrong = [thing for thing in NO_WHOLES if thing is not None]
    wrong += [0, 1, 8, -1, LONG, NOUGHTS[:7], NOUGHTS + [0], tuple(COUNTED), dict.fromkeys(range(8), 1), "01234567"]
    wrong += [b"01234567", range(8), set(range(8)), [NOUGHTS] * 8, [None] * 8]
    for cell in range(8):
        for word in NO_WORDS:
            wrong.append(COUNTED[:cell] + [word] + COUNTED[cell + 1:])
    return wrong


def small():
    """Pages 0, 1 and 3 are there, page 2 is not."""
    return [list(COUNTED), list(HIGH), None, list(NOUGHTS)]


class Cases(unittest.TestCase):
    def refused(self, memory, kind, asked, *things):
        """asked is refused with just this class, and changes nothing."""
        ahead = memory.told()
        with self.assertRaises(HouseError) as caught:
            asked(*things)
        self.assertIs(type(caught.exception), kind)
        self.assertEqual(memory.told(), ahead)


class Making(unittest.TestCase):
    def test_a_memory_is_a_store(self):
        self.assertTrue(issubclass(Memory, Store))
        self.assertIsInstance(Memory([None]), Store)
        self.assertIsInstance(Store(), Store)

    def test_of_one_page(self):
        for page in (NOUGHTS, COUNTED, HIGH, None):
            memory = Memory([page])
            self.assertEqual(memory.size(), 1)
            self.assertEqual(memory.told(), [page])

    def test_of_1_to_24_pages(self):
        for size in range(1, 25):
            pages = [None if page % 3 == 1 else [page * 100 + cell for cell in range(8)] for page in range(size)]
            memory = Memory(pages)
            self.assertEqual(memory.size(), size)
            self.assertEqual(memory.told(), pages)

    def test_of_no_page_that_is_there(self):
        for size in (1, 2, 24):
            memory = Memory([None] * size)
            self.assertEqual(memory.size(), size)
            self.assertEqual(memory.told(), [None] * size)

    def test_by_its_arguments_name(self):
        self.assertEqual(Memory(pages=[COUNTED]).told(), [COUNTED])

    def test_of_too_few_or_too_many_pages(self):
        for size in (0, 25, 26, 100):
            for page in (None, NOUGHTS):
                with self.subTest(size=size, page=page):
                    self.assertRaises(NoImage, Memory, [page] * size)

    def test_of_other_things(self):
        for thing in NO_WHOLES + (0, 1, 24, LONG, (None,), (COUNTED,), {0: COUNTED}, "-", COUNTED, [COUNTED, 1]):
            with self.subTest(type(thing).__name__):
                self.assertRaises(NoImage, Memory, thing)

    def test_of_a_wrong_page_at_any_place(self):
        for page in no_eights():
            for pages in ([page], [page, COUNTED], [COUNTED, page], [None, page, None], [COUNTED] * 23 + [page]):
                with self.subTest(kind=type(page).__name__, size=len(pages)):
                    self.assertRaises(NoImage, Memory, pages)

    def test_what_is_handed_in_stays(self):
        good, wrong = small(), [list(COUNTED), None, [1, 2]]
        memory = Memory(good)
        memory.write(0, 0, 77)
        memory.give(1)
        memory.lay(2, COUNTED)
        self.assertRaises(NoImage, Memory, wrong)
        self.assertEqual(good, small())
        self.assertEqual(wrong, [list(COUNTED), None, [1, 2]])


class Asking(Cases):
    def test_has(self):
        memory = Memory(small())
        self.assertEqual([memory.has(page) for page in range(4)], [True, True, False, True])
        for page in no_numbers(4):
            with self.subTest(type(page).__name__):
                self.assertIs(memory.has(page), False)

    def test_has_at_24_pages(self):
        memory = Memory([COUNTED] * 24)
        self.assertTrue(all(memory.has(page) is True for page in range(24)))
        self.assertIs(memory.has(24), False)
        self.assertIs(memory.has(-1), False)
        self.assertIs(memory.has(-24), False)

    def test_truths_are_no_numbers(self):
        memory = Memory([COUNTED, COUNTED])
        self.assertIs(memory.has(True), False)
        self.assertIs(memory.has(False), False)

    def test_read(self):
        memory = Memory(small())
        for page in (0, 1, 3):
            for cell in range(8):
                self.assertEqual(memory.read(page, cell), small()[page][cell])

    def test_asking_changes_nothing(self):
        memory = Memory(small())
        memory.has(0), memory.has(2), memory.has(None), memory.size(), memory.read(0, 7), memory.told()
        self.assertEqual(memory.told(), small())

    def test_read_refused(self):
        memory = Memory(small())
        for page in no_numbers(4) + (2,):
            self.refused(memory, NoPage, memory.read, page, 0)
            self.refused(memory, NoPage, memory.read, page, 7)
        for cell in NO_CELLS:
            for page in (0, 1, 3):
                self.refused(memory, NoPlace, memory.read, page, cell)

    def test_read_with_both_wrong(self):
        memory = Memory(small())
        for page in no_numbers(4) + (2,):
            for cell in NO_CELLS:
                self.refused(memory, NoPage, memory.read, page, cell)


class Writing(Cases):
    def test_each_word_at_each_spot(self):
        for page in (0, 1, 3):
            for cell in range(8):
                for word in (0, 1, 77, TOP // 2, TOP - 1):
                    memory, pages = Memory(small()), small()
                    pages[page][cell] = word
                    self.assertIsNone(memory.write(page, cell, word))
                    self.assertEqual(memory.read(page, cell), word)
                    self.assertEqual(memory.told(), pages)

    def test_one_after_the_other(self):
        memory, pages = Memory(small()), small()
        for page, cell, word in ((0, 0, 5), (0, 0, 6), (3, 7, 9), (0, 7, 5), (1, 3, 0), (3, 7, TOP - 1)):
            memory.write(page, cell, word)
            pages[page][cell] = word
            self.assertEqual(memory.told(), pages)

    def test_by_its_arguments_names(self):
        memory = Memory(small())
        memory.write(page=0, cell=1, word=2)
        self.assertEqual(memory.read(page=0, cell=1), 2)

    def test_one_list_handed_in_as_two_pages(self):
        words = list(NOUGHTS)
        memory = Memory([words, words])
        memory.write(0, 0, 1)
        self.assertEqual(memory.told(), [[1] + NOUGHTS[1:], NOUGHTS])

    def test_two_memories_of_one_list(self):
        pages = small()
        one, other = Memory(pages), Memory(pages)
        one.write(0, 0, 1)
        one.give(1)
        one.lay(2, NOUGHTS)
        self.assertEqual(other.told(), small())

    def test_refused_for_the_page(self):
        memory = Memory(small())
        for page in no_numbers(4) + (2,):
            self.refused(memory, NoPage, memory.write, page, 0, 77)

    def test_refused_for_the_cell(self):
        memory = Memory(small())
        for cell in NO_CELLS:
            self.refused(memory, NoPlace, memory.write, 0, cell, 77)

    def test_refused_for_the_word(self):
        memory = Memory(small())
        for word in NO_WORDS:
            self.refused(memory, NoWord, memory.write, 0, 0, word)
            self.refused(memory, NoWord, memory.write, 3, 7, word)

    def test_page_and_cell_wrong(self):
        memory = Memory(small())
        for page in no_numbers(4) + (2,):
            for cell in NO_CELLS:
                self.refused(memory, NoPage, memory.write, page, cell, 77)

    def test_page_and_word_wrong(self):
        memory = Memory(small())
        for page in no_numbers(4) + (2,):
            for word in NO_WORDS:
                self.refused(memory, NoPage, memory.write, page, 0, word)

    def test_cell_and_word_wrong(self):
        memory = Memory(small())
        for cell in NO_CELLS:
            for word in NO_WORDS:
                self.refused(memory, NoPlace, memory.write, 0, cell, word)

    def test_all_wrong(self):
        memory = Memory(small())
        for page in no_numbers(4) + (2,):
            for cell in (-1, 8, True, None, "0", [0], Prickly()):
                for word in (-1, TOP, True, None, "0", [0], Prickly()):
                    self.refused(memory, NoPage, memory.write, page, cell, word)


class Giving(Cases):
    def test_a_page_is_not_there_then(self):
        for page in (0, 1, 3):
            memory, pages = Memory(small()), small()
            self.assertIsNone(memory.give(page))
            pages[page] = None
            self.assertIs(memory.has(page), False)
            self.assertEqual(memory.size(), 4)
            self.assertEqual(memory.told(), pages)
            self.refused(memory, NoPage, memory.read, page, 0)
            self.refused(memory, NoPage, memory.write, page, 0, 77)
            self.refused(memory, NoPage, memory.give, page)

    def test_all_of_them(self):
        memory = Memory([COUNTED] * 24)
        for page in range(24):
            memory.give(page)
        self.assertEqual(memory.told(), [None] * 24)
        self.assertEqual(memory.size(), 24)

    def test_refused(self):
        memory = Memory(small())
        for page in no_numbers(4) + (2,):
            self.refused(memory, NoPage, memory.give, page)

    def test_by_its_arguments_name(self):
        memory = Memory(small())
        memory.give(page=0)
        self.assertIs(memory.has(page=0), False)


class Laying(Cases):
    def test_whether_it_was_there_or_not(self):
        for page in range(4):
            for words in (NOUGHTS, COUNTED, HIGH):
                memory, pages = Memory(small()), small()
                self.assertIsNone(memory.lay(page, words))
                pages[page] = words
                self.assertIs(memory.has(page), True)
                self.assertEqual(memory.size(), 4)
                self.assertEqual(memory.told(), pages)

    def test_given_up_and_laid_again(self):
        memory = Memory(small())
        for words in (COUNTED, NOUGHTS, HIGH):
            memory.give(0)
            self.assertIs(memory.has(0), False)
            memory.lay(0, words)
            self.assertEqual([memory.read(0, cell) for cell in range(8)], words)
            memory.write(0, 3, 5)
            self.assertEqual(memory.told(), [words[:3] + [5] + words[4:]] + small()[1:])

    def test_by_its_arguments_names(self):
        memory = Memory(small())
        memory.lay(page=2, words=COUNTED)
        self.assertEqual(memory.told()[2], COUNTED)

    def test_refused_for_the_page(self):
        memory = Memory(small())
        for page in no_numbers(4):
            self.refused(memory, NoPage, memory.lay, page, list(COUNTED))

    def test_refused_for_the_words(self):
        memory = Memory(small())
        for words in no_eights() + [None]:
            self.refused(memory, NoWord, memory.lay, 0, words)
            self.refused(memory, NoWord, memory.lay, 2, words)

    def test_both_wrong(self):
        memory = Memory(small())
        for page in no_numbers(4):
            for words in no_eights() + [None]:
                self.refused(memory, NoPage, memory.lay, page, words)

    def test_what_is_handed_in_stays(self):
        memory, good, wrong = Memory(small()), list(COUNTED), [1, 2]
        memory.lay(2, good)
        memory.write(2, 0, 77)
        memory.give(2)
        self.refused(memory, NoWord, memory.lay, 2, wrong)
        self.assertEqual((good, wrong), (COUNTED, [1, 2]))

    def test_one_list_laid_as_two_pages(self):
        memory, words = Memory(small()), list(NOUGHTS)
        memory.lay(0, words)
        memory.lay(2, words)
        memory.write(0, 0, 1)
        self.assertEqual(memory.told()[2], NOUGHTS)


class Behind(unittest.TestCase):
    """What is done behind a call to what was handed in or told."""

    def test_the_list_of_pages_handed_in(self):
        pages = small()
        memory = Memory(pages)
        pages[0][0] = 99
        pages[1].append(5)
        pages[3].clear()
        pages[2] = list(COUNTED)
        self.assertEqual(memory.told(), small())
        pages.clear()
        self.assertEqual(memory.size(), 4)
        self.assertEqual(memory.told(), small())

    def test_the_words_laid(self):
        memory, words = Memory(small()), list(COUNTED)
        memory.lay(2, words)
        words[0] = 99
        words.append(5)
        self.assertEqual(memory.told()[2], COUNTED)

    def test_the_list_told(self):
        memory = Memory(small())
        told = memory.told()
        told[0][0] = 99
        told[1] = None
        told[2] = list(COUNTED)
        told.pop()
        self.assertEqual(memory.size(), 4)
        self.assertEqual(memory.read(0, 0), 11)
        self.assertEqual(memory.told(), small())

    def test_a_list_told_ahead_stays(self):
        memory = Memory(small())
        told = memory.told()
        memory.write(0, 0, 99)
        memory.give(1)
        memory.lay(2, COUNTED)
        memory.lay(3, COUNTED)
        self.assertEqual(told, small())

    def test_each_list_told_is_a_new_one(self):
        memory = Memory(small())
        one, other = memory.told(), memory.told()
        self.assertIsNot(one, other)
        for page in (0, 1, 3):
            self.assertIsNot(one[page], other[page])
        self.assertEqual([type(page) for page in one], [list, list, type(None), list])


if __name__ == "__main__":
    unittest.main()
