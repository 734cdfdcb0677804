"""Kept ways: ways whose pages lie on a machine's frames, as far as both of them are the same."""

from shadowpages.errors import NoRoom
from shadowpages.parts import Parts
from shadowpages.store import check_image
from shadowpages.ways import Ways


class Kept(Ways):
    # By itself a kept way without tables. One under it tells how many own frames its tables need (own_count), whether
    # a row of them lets a write through to a page (loose), and how a page's rows are set to what the page is now
    # (shut); it adds to clean, word_at and put_word what its tables need.

    def __init__(self, frames, pages, most):
        check_image(pages)
        Ways.__init__(self, most)
        # In this order: what own_count refuses goes behind the shelf and ahead of the room.
        count = self.own_count(len(pages))
        there = [page for page in pages if page is not None]
        if not frames.ask(len(there) + count):
            raise NoRoom("too many frames are promised already")
        self.floor = frames
        self.own = [frames.take() for number in range(count)]
        self.part = Parts(frames, pages)
        self.heard = []
        # The soiled pages, as keys.
        self.stains = {}

    def own_count(self, size):
        return 0

    def loose(self, page):
        return False

    def shut(self, page):
        # Behind it each row that leads to the page leads to its frame of now, and lets no write through.
        pass

    def size(self):
        return self.part.size()

    def has(self, page):
        return self.frame(page) is not None

    def frame(self, page):
        return self.part.frame(page)

    def word_at(self, page, cell):
        return self.floor.read(self.frame(page), cell)

    def put_word(self, page, cell, word):
        self.put_alone(page)
        self.soil(page)
        self.floor.write(self.frame(page), cell, word)

    def put_alone(self, page):
        if self.part.alone(page):
            self.shut(page)

    def soil(self, page):
        self.stains[page] = True

    def pages(self):
        # Straight from the frames: asking for them leaves the tables as they are.
        return self.part.pages()

    def give_up(self, page):
        self.part.give(page)
        self.floor.back(1)
        self.soil(page)
        self.shut(page)

    def ask_house(self):
        word = self.floor.ask(1)
        self.heard.append(word)
        return word

    def come_back(self, page):
        self.part.fresh(page)
        self.soil(page)
        self.shut(page)

    def soiled(self):
        return sorted(list(self.stains))

    def clean(self):
        self.stains = {}

    def guard(self, page):
        self.check_page(page)
        self.shut(page)

    def lead(self, page, frame):
        self.part.lead(page, frame)
        self.shut(page)

    def tables(self):
        return list(self.own)

    def said(self):
        return list(self.heard)

    def resume(self, root, shelf, said):
        self.turn_root(root)
        for row in shelf:
            self.rack.keep(row[0], row[1], row[2])
        self.heard = list(said)

    def end(self):
        for page in range(self.size()):
            self.give(page)
        for frame in self.own:
            self.floor.drop(frame)
        self.floor.back(len(self.own))
