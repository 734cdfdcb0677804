"""Frames: the pages of words that one machine has, taken, shared and dropped, and promised ahead of that."""

from shadowpages.bounds import CELLS, FRAMES
from shadowpages.errors import NoFrame
from shadowpages.store import Store
from shadowpages.words import is_below, is_whole


class Frames(Store):
    def __init__(self, many):
        if not is_whole(many) or not 1 <= many <= FRAMES:
            raise NoFrame("frames are no whole number from 1 to 200")
        # How many owners each frame has; a free one has none.
        self.holders = [0] * many
        self.sheets = [[0] * CELLS for frame in range(many)]
        self.pledged = 0

    def size(self):
        return len(self.holders)

    def has(self, page):
        return is_below(page, self.size()) and self.holders[page] > 0

    def word_at(self, page, cell):
        return self.sheets[page][cell]

    def put_word(self, page, cell, word):
        self.sheets[page][cell] = word

    def take(self):
        if self.free() == 0:
            raise NoFrame("no frame is free")
        frame = self.holders.index(0)
        self.holders[frame] = 1
        # It may bear the words of those who had it before.
        self.sheets[frame] = [0] * CELLS
        return frame

    def share(self, frame):
        self.check_taken(frame)
        self.holders[frame] += 1

    def drop(self, frame):
        self.check_taken(frame)
        self.holders[frame] -= 1

    def check_taken(self, frame):
        if not self.has(frame):
            raise NoFrame("no frame of this number is taken")

    def owners(self, frame):
        return self.holders[frame] if self.has(frame) else 0

    def free(self):
        return self.holders.count(0)

    def ask(self, count):
        if self.pledged + count > self.size():
            return False
        self.pledged += count
        return True

    def back(self, count):
        self.pledged -= count

    def promised(self):
        return self.pledged
