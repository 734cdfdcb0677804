"""Things of many kinds that the tests hand in where the document refuses a thing of any kind."""


class Prickly:
    """Can be neither compared nor hashed nor counted, nor be asked for a truth."""

    def refuse(self, *others):
        raise AssertionError("a thing of any kind was taken for another one")

    __eq__ = __lt__ = __le__ = __gt__ = __ge__ = __hash__ = __len__ = __iter__ = __bool__ = __index__ = refuse


NO_WHOLES = (
    True, False, None, "", "0", "7", "word", [], [0], [7], (), (7,), {}, {7: 7}, 0.0, 7.0, 0.5, float("nan"),
    float("inf"), 1j, b"", b"7", bytearray(b"7"), {7}, frozenset((7,)), range(8), object(), int, len, Prickly(),
)

LONG = 10 ** 4000 - 1
TOP = 2 ** 48

NO_WORDS = NO_WHOLES + (-1, -TOP, TOP, TOP + 1, LONG, -LONG)
NO_CELLS = NO_WHOLES + (-1, -8, 8, 9, TOP, LONG, -LONG)


def no_numbers(size):
    """What is no number of a page in a store of this size."""
    return NO_WHOLES + (-1, -size, size, size + 1, 24, 2 ** 40, TOP, LONG, -LONG)
