"""Words: whole numbers from 0 to 2 ** 48 - 1, and what is made of them."""

from shadowpages.bounds import WORDS
from shadowpages.errors import NoWord


def is_whole(thing):
    # Python counts True and False among its ints; the document does not.
    return isinstance(thing, int) and not isinstance(thing, bool)


def is_below(thing, bound):
    return is_whole(thing) and 0 <= thing < bound


def is_word(thing):
    return is_below(thing, WORDS)


def word_of(number):
    if not is_whole(number):
        # The thing itself is not shown: it may be of any kind, and too long to be written.
        raise NoWord("what is no whole number has no word")
    return number % WORDS


def plus(one, other):
    return word_of(one + other)


def both(one, other):
    return one & other


def odd(one, other):
    return one ^ other
