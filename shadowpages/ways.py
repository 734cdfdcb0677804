"""Ways: a guest's pages, reached by its root, its tables and its shelf."""

from shadowpages.bounds import CELLS, PLACES
from shadowpages.errors import Fault
from shadowpages.places import number_of, parts_of
from shadowpages.shelf import Shelf
from shadowpages.store import Memory, Store, check_word
from shadowpages.walk import lets, look, mark
from shadowpages.words import is_below


class Ways(Store):
    # By itself a way without pages. One under it tells where its pages lie as a store does (size, has, word_at,
    # put_word), how one goes and comes (give_up, come_back), and what the house says (ask_house).

    def __init__(self, most):
        self.base = 0
        self.rack = Shelf(most)

    def give_up(self, page):
        pass

    def come_back(self, page):
        pass

    def ask_house(self):
        return False

    def load(self, place, kernel):
        page = self.reach(place, False, kernel)
        return self.read(page, parts_of(place)[2])

    def save(self, place, word, kernel):
        # Ahead of the marks: the write behind them would refuse too late, with something changed.
        check_word(word)
        page = self.reach(place, True, kernel)
        self.write(page, parts_of(place)[2], word)

    def reach(self, place, write, kernel):
        page = self.remembered(place, write, kernel)
        if page is None:
            page = self.walked(place, write, kernel)
        return page

    def remembered(self, place, write, kernel):
        if not is_below(place, PLACES):
            return None
        row = self.rack.seek(number_of(place))
        if row is None or not self.has(row[0]) or not lets(row[1], write, kernel):
            return None
        return row[0]

    def walked(self, place, write, kernel):
        trail = look(self, self.base, place, write, kernel)
        rights = mark(self, trail, write)
        self.rack.keep(number_of(place), trail[2], rights)
        return trail[2]

    def peek(self, spot):
        self.check_beyond(spot)
        return self.read(spot // CELLS, spot % CELLS)

    def poke(self, spot, word):
        self.check_beyond(spot)
        self.write(spot // CELLS, spot % CELLS, word)

    def check_beyond(self, spot):
        if not self.has(spot // CELLS):
            raise Fault("beyond", spot, 0)

    def root(self):
        return self.base

    def turn_root(self, root):
        self.base = root
        self.rack.empty()

    def drop(self, place):
        if is_below(place, PLACES):
            self.rack.drop(number_of(place))

    def give(self, page):
        if not self.has(page):
            return False
        self.give_up(page)
        return True

    def want(self, page):
        # In this order: the house is asked only where its word decides, since each asking uses one up.
        if not is_below(page, self.size()) or self.has(page) or not self.ask_house():
            return False
        self.come_back(page)
        return True

    def shelf(self):
        return self.rack.told()

    def pages(self):
        return [self.words_of(page) if self.has(page) else None for page in range(self.size())]


class Plain(Ways):
    def __init__(self, pages, most, words):
        self.memory = Memory(pages)
        Ways.__init__(self, most)
        self.answers = list(words)

    def size(self):
        return self.memory.size()

    def has(self, page):
        return self.memory.has(page)

    def word_at(self, page, cell):
        return self.memory.word_at(page, cell)

    def put_word(self, page, cell, word):
        self.memory.put_word(page, cell, word)

    def give_up(self, page):
        self.memory.give(page)

    def come_back(self, page):
        self.memory.lay(page, [0] * CELLS)

    def ask_house(self):
        if len(self.answers) == 0:
            return False
        return self.answers.pop(0)
