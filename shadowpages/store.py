"""Stores: pages of eight words, each there or not, told by their numbers."""

from shadowpages.bounds import CELLS, MOST_PAGES
from shadowpages.errors import NoImage, NoPage, NoPlace, NoWord
from shadowpages.words import is_below, is_word


def is_eight_words(thing):
    return isinstance(thing, list) and len(thing) == CELLS and all([is_word(word) for word in thing])


def check_image(pages):
    if not isinstance(pages, list) or not 1 <= len(pages) <= MOST_PAGES:
        raise NoImage("the pages are no list of 1 to 24 things")
    for page in pages:
        if page is not None and not is_eight_words(page):
            raise NoImage("a page is neither a list of eight words nor None")


def check_word(word):
    if not is_word(word):
        raise NoWord("what is to be written is no word")


class Store:
    # By itself a store without pages. One under it tells its own size and pages by size and has, and where their
    # words lie by word_at and put_word; the refusals of read and write are the same for all.

    def size(self):
        return 0

    def has(self, page):
        return False

    def word_at(self, page, cell):
        return 0

    def put_word(self, page, cell, word):
        pass

    def read(self, page, cell):
        self.check_spot(page, cell)
        return self.word_at(page, cell)

    def write(self, page, cell, word):
        self.check_spot(page, cell)
        check_word(word)
        self.put_word(page, cell, word)

    def words_of(self, page):
        return [self.word_at(page, cell) for cell in range(CELLS)]

    def check_spot(self, page, cell):
        self.check_page(page)
        if not is_below(cell, CELLS):
            raise NoPlace("a page's cell is no whole number from 0 to 7")

    def check_page(self, page):
        if not self.has(page):
            raise NoPage("no page of this number is there")


class Memory(Store):
    def __init__(self, pages):
        check_image(pages)
        # Lists of its own, so that nothing done to those handed in, nor one list handed in twice, reaches a page.
        self.held = [None if page is None else list(page) for page in pages]

    def size(self):
        return len(self.held)

    def has(self, page):
        return is_below(page, self.size()) and self.held[page] is not None

    def word_at(self, page, cell):
        return self.held[page][cell]

    def put_word(self, page, cell, word):
        self.held[page][cell] = word

    def give(self, page):
        self.check_page(page)
        self.held[page] = None

    def lay(self, page, words):
        if not is_below(page, self.size()):
            raise NoPage("no page has this number")
        if not is_eight_words(words):
            raise NoWord("what is to be laid is no list of eight words")
        self.held[page] = list(words)

    def told(self):
        return [None if page is None else list(page) for page in self.held]
