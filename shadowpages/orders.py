"""Orders: the rows of a program, and which programs are good."""

from shadowpages.bounds import ENTRIES, ORDERS, REGISTERS, WORDS
from shadowpages.errors import NoProgram
from shadowpages.words import is_below

KINDS = ("far", "absent", "beyond", "kernel", "fixed", "deed", "call")

# The word of each row, and what stands behind it.
FORMS = {
    "set": ("a", "word"),
    "add": ("a", "b"),
    "both": ("a", "b"),
    "odd": ("a", "b"),
    "load": ("a", "b"),
    "save": ("a", "b"),
    "jump": ("at",),
    "nought": ("a", "at"),
    "tell": ("a",),
    "call": (),
    "halt": (),
    "peek": ("a", "b"),
    "poke": ("a", "b"),
    "root": ("a",),
    "drop": ("a",),
    "give": ("a",),
    "want": ("a",),
    "why": ("a", "b"),
    "back": (),
    "past": (),
    "user": ("at",),
}


def is_order(thing):
    if not isinstance(thing, tuple) or len(thing) == 0:
        return False
    # A text first of all: other things may not even be sought in a dict.
    if not isinstance(thing[0], str) or thing[0] not in FORMS:
        return False
    form = FORMS[thing[0]]
    if len(thing) != 1 + len(form):
        return False
    return all([is_below(number, bound_of(part)) for number, part in zip(thing[1:], form)])


def bound_of(part):
    if part == "word":
        return WORDS
    if part == "at":
        return ENTRIES
    return REGISTERS


def checked(program, entry):
    if not isinstance(program, list) or not 1 <= len(program) <= ORDERS:
        raise NoProgram(None)
    for number, row in enumerate(program):
        if not is_order(row):
            raise NoProgram(number)
    if not is_below(entry, ENTRIES):
        raise NoProgram(None)
