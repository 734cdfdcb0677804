"""Parts: which frame each page of a guest leads to."""

from shadowpages.bounds import CELLS
from shadowpages.errors import NoPage
from shadowpages.store import check_image
from shadowpages.words import is_below


class Parts:
    def __init__(self, frames, pages):
        check_image(pages)
        self.floor = frames
        # Each page's frame, None where the page is not there.
        self.goals = [None if page is None else self.filled(page) for page in pages]

    def filled(self, words):
        # A frame taken, with these words.
        frame = self.floor.take()
        for cell in range(CELLS):
            self.floor.write(frame, cell, words[cell])
        return frame

    def size(self):
        return len(self.goals)

    def frame(self, page):
        return self.goals[page] if is_below(page, self.size()) else None

    def check_there(self, page):
        if self.frame(page) is None:
            raise NoPage("no page of this number is there")

    def alone(self, page):
        self.check_there(page)
        shared = self.goals[page]
        if self.floor.owners(shared) == 1:
            return False
        # Taken ahead of the drop: where none is free, nothing has changed.
        self.goals[page] = self.filled(self.floor.words_of(shared))
        self.floor.drop(shared)
        return True

    def lead(self, page, frame):
        self.check_there(page)
        # Ahead of the comparison: a thing of any kind may not bear one, or be like a number.
        self.floor.check_taken(frame)
        ahead = self.goals[page]
        if ahead != frame:
            self.floor.share(frame)
            self.floor.drop(ahead)
            self.goals[page] = frame

    def give(self, page):
        self.check_there(page)
        self.floor.drop(self.goals[page])
        self.goals[page] = None

    def fresh(self, page):
        if not is_below(page, self.size()) or self.goals[page] is not None:
            raise NoPage("a page of this number is there, or none can be")
        self.goals[page] = self.floor.take()

    def told(self):
        return list(self.goals)

    def pages(self):
        return [None if frame is None else self.floor.words_of(frame) for frame in self.goals]
