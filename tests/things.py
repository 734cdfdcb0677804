"""Things of many kinds that the tests hand in where the document refuses a thing of any kind, and guests by dice."""


class Prickly:
    """Can be neither compared nor hashed nor counted, nor be asked for a truth."""

    def refuse(self, *others):
        raise AssertionError("a thing of any kind was taken for another one")

    __eq__ = __lt__ = __le__ = __gt__ = __ge__ = __hash__ = __len__ = __iter__ = __bool__ = __index__ = refuse


NO_WHOLES = (
    True, False, None, "", "0", "7", "word", [], [0], [7], (), (7,), {}, {7: 7}, 0.0, 7.0, 0.5, float("nan"),
    float("inf"), 1j, b"", b"7", bytearray(b"7"), {7}, frozenset((7,)), range(8), object(), int, len, Prickly(),
)

LONG = 10 ** 4000 - 1
TOP = 2 ** 48

NO_WORDS = NO_WHOLES + (-1, -TOP, TOP, TOP + 1, LONG, -LONG)
NO_CELLS = NO_WHOLES + (-1, -8, 8, 9, TOP, LONG, -LONG)


def no_numbers(size):
    """What is no number of a page in a store of this size."""
    return NO_WHOLES + (-1, -size, size, size + 1, 24, 2 ** 40, TOP, LONG, -LONG)


# The words of all rows, some of them more than once, since the dice are to show them more often.
ROW_WORDS = (
    "set", "set", "set", "set", "add", "both", "odd", "load", "load", "load", "save", "save", "save", "jump", "nought",
    "tell", "tell", "call", "call", "peek", "poke", "root", "drop", "give", "want", "why", "back", "past", "past",
    "user", "user", "halt",
)
ROW_FORMS = {
    "set": "aw", "jump": "r", "nought": "ar", "tell": "a", "call": "", "halt": "", "root": "a", "drop": "a",
    "give": "a", "want": "a", "back": "", "past": "", "user": "r",
}
GUEST_SIZE = 6


def some_row_of_tables(dice, marks):
    return 256 * dice.randrange(GUEST_SIZE) + dice.choice(marks)


def some_word(dice):
    row = some_row_of_tables(dice, (3, 3, 1, 7, 19))
    near = dice.choice((dice.randrange(8), dice.randrange(48), 64 + dice.randrange(48)))
    return dice.choice((row, row, near, near, near, near, dice.randrange(600), dice.randrange(TOP), TOP - 1))


def some_row(dice, many):
    word = dice.choice(ROW_WORDS)
    if word == "halt" and dice.random() < 0.5:
        word = "tell"
    at = dice.randrange(many) if dice.random() < 0.98 else dice.randrange(61)
    parts = {"a": dice.randrange(4), "b": dice.randrange(4), "w": some_word(dice), "r": at}
    return (word,) + tuple(parts[part] for part in ROW_FORMS.get(word, "ab"))


def some_guest(dice):
    """Pages, a shelf's size, a program, an entry, and words for its wishes."""
    many = dice.choice((3, 12, 40, 60))
    program = [some_row(dice, many) for number in range(many)]
    pages = [None if dice.random() < 0.1 else [some_word(dice) for cell in range(8)] for page in range(GUEST_SIZE)]
    # Most of the places lead somewhere.
    pages[0] = [some_row_of_tables(dice, (3, 3, 7, 1)) for cell in range(8)]
    return (pages, 1 + dice.randrange(12), program, dice.randrange(many), [dice.random() < 0.7 for word in range(9)])
