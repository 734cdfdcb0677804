"""The shelf: the last few rows that were walked to, by their places' numbers."""

from shadowpages.bounds import SEATS
from shadowpages.errors import NoShelf
from shadowpages.words import is_whole


class Shelf:
    def __init__(self, most):
        if not is_whole(most) or not 1 <= most <= SEATS:
            raise NoShelf("a shelf's size is no whole number from 1 to 12")
        self.most = most
        # A dict has its keys in the order in which they came, and a key put anew stays at its seat: so the oldest
        # row is the first one.
        self.seats = {}

    def seek(self, number):
        return self.seats.get(number)

    def keep(self, number, page, rights):
        self.seats[number] = (page, rights)
        if len(self.seats) <= self.most:
            return None
        oldest = list(self.seats)[0]
        self.drop(oldest)
        return oldest

    def drop(self, number):
        if number not in self.seats:
            return False
        self.seats.pop(number)
        return True

    def empty(self):
        self.seats = {}

    def told(self):
        return [(number, row[0], row[1]) for number, row in self.seats.items()]
