"""Points 9, 10 and 11: the walk and its faults, the marks along a trail, rights."""

import itertools
import unittest

from shadowpages.errors import Fault, HouseError
from shadowpages.places import place_of
from shadowpages.rows import row_of
from shadowpages.store import Memory, Store
from shadowpages.walk import lets, look, mark

TOP = 2 ** 48
TRUTHS = (False, True)
P, W, K, T, S = 1, 2, 4, 8, 16
SIZE = 6
ROOT, LOW, GOAL, GONE = 1, 3, 5, 4
BEYOND = (GONE, SIZE, 24, 2 ** 40 - 1)


class Noted(Memory):
    """A memory that notes what is read and written."""

    def __init__(self, pages):
        Memory.__init__(self, pages)
        self.reads, self.writes = [], []

    def read(self, page, cell):
        self.reads.append((page, cell))
        return Memory.read(self, page, cell)

    def write(self, page, cell, word):
        self.writes.append((page, cell, word))
        Memory.write(self, page, cell, word)


class Spots(Store):
    """A store of another make: a dict of spots, and just what the interface tells of a Store."""

    def __init__(self, words):
        self.words = words

    def size(self):
        return 24

    def has(self, page):
        return page in [spot[0] for spot in self.words]

    def read(self, page, cell):
        return self.words[(page, cell)]

    def write(self, page, cell, word):
        self.words[(page, cell)] = word


def tables(place, top_row, low_row):
    """A store with a top table on ROOT and a low one on LOW, filled with rows that would fault otherwise."""
    pages = [[row_of(2, 1)] * 8 for page in range(SIZE)]
    pages[ROOT] = [0] * 8
    pages[LOW] = [0] * 8
    pages[GONE] = None
    pages[ROOT][place // 64] = top_row
    pages[LOW][place // 8 % 8] = low_row
    return Noted(pages)


def fault_of(call, *things):
    """The fault as a tuple, or None where there was none."""
    try:
        call(*things)
    except Fault as fault:
        return (fault.kind, fault.place, fault.level)
    return None


def row_fault(page, marks, write, kernel):
    """The first of point 9's four that holds of a row."""
    four = (
        ("absent", not marks & P),
        ("beyond", page in BEYOND),
        ("kernel", marks & K and not kernel),
        ("fixed", write and not marks & W),
    )
    for kind, holds in four:
        if holds:
            return kind
    return None


def rights_of(top_marks, low_marks):
    rights = 0
    if top_marks & W and low_marks & W:
        rights += 2
    if top_marks & K or low_marks & K:
        rights += 4
    if low_marks & S:
        rights += 16
    return rights


class Walks(unittest.TestCase):
    def walked(self, store, root, place, write, kernel, fault, trail=None):
        """The walk is this fault, or tells this trail; nothing is changed by it."""
        ahead = store.told()
        if fault is None:
            told = look(store, root, place, write, kernel)
            self.assertEqual(told, trail)
            self.assertEqual([type(part) for part in told], [tuple, tuple, int, int])
            self.assertIs(type(told), tuple)
        else:
            with self.assertRaises(HouseError) as caught:
                look(store, root, place, write, kernel)
            self.assertIs(type(caught.exception), Fault)
            self.assertEqual((caught.exception.kind, caught.exception.place, caught.exception.level), fault)
        self.assertEqual(store.writes, [])
        self.assertEqual(store.told(), ahead)


class Level0(Walks):
    def test_far(self):
        for place in (512, 513, 1023, 4096, TOP - 1):
            for write, kernel in itertools.product(TRUTHS, TRUTHS):
                store = tables(0, row_of(LOW, P | W), row_of(GOAL, P | W))
                self.walked(store, ROOT, place, write, kernel, ("far", place, 0))
                self.assertEqual(store.reads, [])

    def test_511_is_not_far(self):
        store = tables(511, row_of(LOW, P), row_of(GOAL, P))
        self.walked(store, ROOT, 511, False, False, None, ((ROOT, 7), (LOW, 7), GOAL, 0))

    def test_root_beyond(self):
        for root in BEYOND + (2 ** 40, TOP - 1):
            for place in (0, 77, 511):
                for write, kernel in itertools.product(TRUTHS, TRUTHS):
                    store = tables(place, row_of(LOW, P | W), row_of(GOAL, P | W))
                    self.walked(store, root, place, write, kernel, ("beyond", place, 0))
                    self.assertEqual(store.reads, [])

    def test_far_goes_ahead_of_beyond(self):
        for root in BEYOND:
            store = tables(0, row_of(LOW, P), row_of(GOAL, P))
            self.walked(store, root, 512, False, True, ("far", 512, 0))

    def test_far_goes_ahead_of_absent(self):
        self.walked(tables(0, 0, 0), ROOT, 512, False, True, ("far", 512, 0))

    def test_beyond_goes_ahead_of_absent(self):
        self.walked(tables(0, 0, 0), GONE, 0, False, True, ("beyond", 0, 0))


class Faults(Walks):
    def test_each_alone_at_level_1(self):
        for row, write, kernel, kind in (
            (row_of(LOW, W), True, True, "absent"),
            (row_of(GONE, P | W), True, True, "beyond"),
            (row_of(SIZE, P | W), True, True, "beyond"),
            (row_of(2 ** 40 - 1, P | W), False, True, "beyond"),
            (row_of(LOW, P | W | K), True, False, "kernel"),
            (row_of(LOW, P), True, True, "fixed"),
            (row_of(LOW, P), True, False, "fixed"),
        ):
            with self.subTest(kind):
                store = tables(83, row, row_of(GOAL, P | W))
                self.walked(store, ROOT, 83, write, kernel, (kind, 83, 1))
                self.assertEqual(store.reads, [(ROOT, 1)])

    def test_each_alone_at_level_2(self):
        for row, write, kernel, kind in (
            (row_of(GOAL, W), True, True, "absent"),
            (row_of(GONE, P | W), True, True, "beyond"),
            (row_of(SIZE, P | W), True, True, "beyond"),
            (row_of(2 ** 40 - 1, P | W), False, True, "beyond"),
            (row_of(GOAL, P | W | K), True, False, "kernel"),
            (row_of(GOAL, P), True, True, "fixed"),
            (row_of(GOAL, P), True, False, "fixed"),
        ):
            with self.subTest(kind):
                store = tables(83, row_of(LOW, P | W), row)
                self.walked(store, ROOT, 83, write, kernel, (kind, 83, 2))
                self.assertEqual(store.reads, [(ROOT, 1), (LOW, 2)])

    def test_level_1_goes_ahead_of_level_2(self):
        for low_row in (0, row_of(GONE, P), row_of(GOAL, P | K), row_of(GOAL, P)):
            for top_row, kind in (
                (0, "absent"), (row_of(GONE, P | W), "beyond"), (row_of(LOW, P | W | K), "kernel"),
                (row_of(LOW, P), "fixed"),
            ):
                self.walked(tables(0, top_row, low_row), ROOT, 0, True, False, (kind, 0, 1))

    def test_kernel_mode_is_bound_by_writable(self):
        both = row_of(LOW, P | K), row_of(GOAL, P | K)
        self.walked(tables(0, *both), ROOT, 0, True, True, ("fixed", 0, 1))
        self.walked(tables(0, *both), ROOT, 0, False, True, None, ((ROOT, 0), (LOW, 0), GOAL, 4))

    def test_all_mixtures(self):
        """Every mixture of the five marks in both rows, pages there and not, each way of walking."""
        for top_page, low_page in itertools.product((LOW, GONE, SIZE), (GOAL, GONE, SIZE)):
            for top_marks, low_marks in itertools.product(range(32), range(32)):
                place = place_of(top_marks % 8, low_marks % 8, 5)
                store = tables(place, row_of(top_page, top_marks), row_of(low_page, low_marks))
                for write, kernel in itertools.product(TRUTHS, TRUTHS):
                    one = row_fault(top_page, top_marks, write, kernel)
                    two = row_fault(low_page, low_marks, write, kernel)
                    fault = (one, place, 1) if one else (two, place, 2) if two else None
                    trail = (
                        (ROOT, top_marks % 8), (LOW, low_marks % 8), GOAL, rights_of(top_marks, low_marks),
                    )
                    self.walked(store, ROOT, place, write, kernel, fault, trail)


class Trails(Walks):
    def test_all_places(self):
        for place in range(512):
            store = tables(place, row_of(LOW, P | W), row_of(GOAL, P | W))
            spots = ((ROOT, place // 64), (LOW, place // 8 % 8))
            self.walked(store, ROOT, place, True, False, None, spots + (GOAL, 2))
            self.assertEqual(store.reads, list(spots))

    def test_rights_in_all_mixtures(self):
        for top_marks, low_marks in itertools.product(range(0, 32, 2), range(0, 32, 2)):
            store = tables(9, row_of(LOW, P | top_marks), row_of(GOAL, P | low_marks))
            trail = ((ROOT, 0), (LOW, 1), GOAL, rights_of(top_marks, low_marks))
            self.walked(store, ROOT, 9, False, True, None, trail)

    def test_rights_by_themselves(self):
        for top_marks, low_marks, rights in (
            (P, P, 0),
            (P | W, P, 0),
            (P, P | W, 0),
            (P | W, P | W, 2),
            (P | K, P, 4),
            (P, P | K, 4),
            (P | K, P | K, 4),
            (P, P | S, 16),
            (P | S, P, 0),
            (P | T, P | T, 0),
            (P | W | K | T | S, P | W | K | T | S, 22),
            (255, 255, 22),
            (P | 224, P | 224, 0),
        ):
            with self.subTest((top_marks, low_marks)):
                store = tables(9, row_of(LOW, top_marks), row_of(GOAL, low_marks))
                self.walked(store, ROOT, 9, False, True, None, ((ROOT, 0), (LOW, 1), GOAL, rights))

    def test_the_guests_own_bits_mean_nothing(self):
        for own in (32, 64, 128, 224):
            self.walked(tables(0, row_of(LOW, own), 0), ROOT, 0, False, True, ("absent", 0, 1))
            store = tables(0, row_of(LOW, P | own), row_of(GOAL, P | own))
            self.walked(store, ROOT, 0, False, False, None, ((ROOT, 0), (LOW, 0), GOAL, 0))
            self.walked(store, ROOT, 0, True, False, ("fixed", 0, 1))

    def test_one_page_as_root_and_low_table_and_goal(self):
        store = Noted([[row_of(0, P | W | S)] + [0] * 7])
        self.walked(store, 0, 7, True, False, None, ((0, 0), (0, 0), 0, 18))

    def test_the_cell_is_not_asked(self):
        for cell in range(8):
            store = tables(cell, row_of(LOW, P), row_of(GOAL, P))
            self.walked(store, ROOT, cell, False, False, None, ((ROOT, 0), (LOW, 0), GOAL, 0))

    def test_a_store_of_another_make(self):
        store = Spots({(0, 1): row_of(9, P | W), (9, 2): row_of(20, P | W), (20, 3): 77})
        trail = ((0, 1), (9, 2), 20, 2)
        self.assertEqual(look(store, 0, 83, True, False), trail)
        self.assertEqual(fault_of(look, store, 1, 83, True, False), ("beyond", 83, 0))
        self.assertEqual(mark(store, trail, True), 18)
        self.assertEqual(store.words, {(0, 1): row_of(9, 11), (9, 2): row_of(20, 27), (20, 3): 77})

    def test_by_its_arguments_names(self):
        store = tables(0, row_of(LOW, P), row_of(GOAL, P))
        trail = look(store=store, root=ROOT, place=0, write=False, kernel=True)
        self.assertEqual(mark(store=store, trail=trail, write=False), 0)
        self.assertIs(lets(rights=0, write=False, kernel=True), True)


class Marking(unittest.TestCase):
    def test_all_mixtures(self):
        """Every mixture of marks in both rows: what is written, and what is told."""
        for top_marks, low_marks, write in itertools.product(range(1, 32, 2), range(1, 32, 2), TRUTHS):
            store = tables(83, row_of(LOW, top_marks), row_of(GOAL, low_marks))
            ahead = store.told()
            rights = rights_of(top_marks, low_marks)
            wanted = T | S if write else T
            told = mark(store, ((ROOT, 1), (LOW, 2), GOAL, rights), write)
            self.assertEqual(told, rights | 16 if write else rights)
            ahead[ROOT][1] = row_of(LOW, top_marks | T)
            ahead[LOW][2] = row_of(GOAL, low_marks | wanted)
            self.assertEqual(store.told(), ahead)
            writes = []
            if not top_marks & T:
                writes.append((ROOT, 1, row_of(LOW, top_marks | T)))
            if low_marks & wanted != wanted:
                writes.append((LOW, 2, row_of(GOAL, low_marks | wanted)))
            self.assertEqual(store.writes, writes)

    def test_the_other_bits_and_the_page_stay(self):
        page = 2 ** 40 - 1
        store = Noted([[row_of(page, 0), row_of(page, 224), row_of(0, 255), 0, 0, 0, 0, 0]])
        self.assertEqual(mark(store, ((0, 0), (0, 1), 0, 2), True), 18)
        self.assertEqual(store.told()[0][:3], [row_of(page, 8), row_of(page, 248), 255])

    def test_one_spot(self):
        for marks, write, writes in (
            (P | W, False, [P | W | T]),
            (P | W, True, [P | W | T, P | W | T | S]),
            (P | W | T, False, []),
            (P | W | T, True, [P | W | T | S]),
            (P | W | S, True, [P | W | T | S]),
            (P | W | S, False, [P | W | T | S]),
            (P | W | T | S, True, []),
            (P | W | T | S, False, []),
        ):
            with self.subTest(marks=marks, write=write):
                store = Noted([[row_of(0, marks)] + [0] * 7])
                trail = look(store, 0, 0, write, False)
                self.assertEqual(trail[:2], ((0, 0), (0, 0)))
                rights = 18 if write or marks & S else 2
                self.assertEqual(mark(store, trail, write), rights)
                self.assertEqual(store.writes, [(0, 0, row_of(0, more)) for more in writes])
                self.assertEqual(store.told(), [[row_of(0, writes[-1] if writes else marks)] + [0] * 7])

    def test_marks_that_are_there_are_not_written(self):
        for write in TRUTHS:
            store = tables(83, row_of(LOW, P | W | T), row_of(GOAL, P | W | T | S))
            ahead = store.told()
            self.assertEqual(mark(store, ((ROOT, 1), (LOW, 2), GOAL, 18), write), 18)
            self.assertEqual(store.writes, [])
            self.assertEqual(store.told(), ahead)

    def test_a_read_does_not_soil(self):
        store = tables(83, row_of(LOW, P | W), row_of(GOAL, P | W))
        self.assertEqual(mark(store, ((ROOT, 1), (LOW, 2), GOAL, 2), False), 2)
        self.assertEqual(store.writes, [(ROOT, 1, row_of(LOW, P | W | T)), (LOW, 2, row_of(GOAL, P | W | T))])

    def test_a_write_does_not_soil_the_top_row(self):
        store = tables(83, row_of(LOW, P | W), row_of(GOAL, P | W))
        self.assertEqual(mark(store, ((ROOT, 1), (LOW, 2), GOAL, 2), True), 18)
        self.assertEqual(store.writes, [(ROOT, 1, row_of(LOW, P | W | T)), (LOW, 2, row_of(GOAL, P | W | T | S))])

    def test_the_rights_told(self):
        for rights in (0, 2, 4, 6, 16, 18, 20, 22):
            for write, told in ((False, rights), (True, rights | 16)):
                store = tables(83, row_of(LOW, P | W), row_of(GOAL, P | W))
                self.assertEqual(mark(store, ((ROOT, 1), (LOW, 2), GOAL, rights), write), told)

    def test_the_words_are_those_that_lie_there_by_then(self):
        store = tables(83, row_of(LOW, P | W), row_of(GOAL, P | W))
        trail = look(store, ROOT, 83, True, False)
        Memory.write(store, ROOT, 1, row_of(7, P | 64))
        Memory.write(store, LOW, 2, row_of(8, 128))
        self.assertEqual(mark(store, trail, True), 18)
        self.assertEqual(store.told()[ROOT][1], row_of(7, P | 64 | T))
        self.assertEqual(store.told()[LOW][2], row_of(8, 128 | T | S))

    def test_a_walk_behind_the_marks_tells_what_was_told(self):
        for write in TRUTHS:
            store = tables(83, row_of(LOW, P | W), row_of(GOAL, P | W))
            rights = mark(store, look(store, ROOT, 83, write, False), write)
            self.assertEqual(look(store, ROOT, 83, write, False)[3], rights)


class Rights(unittest.TestCase):
    def test_all(self):
        for rights in (0, 2, 4, 6, 16, 18, 20, 22):
            for write, kernel in itertools.product(TRUTHS, TRUTHS):
                answer = (kernel or rights not in (4, 6, 20, 22)) and (not write or rights in (18, 22))
                with self.subTest(rights=rights, write=write, kernel=kernel):
                    self.assertIs(lets(rights, write, kernel), answer)

    def test_those_that_let(self):
        let = [
            (rights, write, kernel)
            for rights in (0, 2, 4, 6, 16, 18, 20, 22)
            for write in TRUTHS
            for kernel in TRUTHS
            if lets(rights, write, kernel)
        ]
        self.assertEqual(let, [
            (0, False, False), (0, False, True), (2, False, False), (2, False, True), (4, False, True),
            (6, False, True), (16, False, False), (16, False, True), (18, False, False), (18, False, True),
            (18, True, False), (18, True, True), (20, False, True), (22, False, True), (22, True, True),
        ])


if __name__ == "__main__":
    unittest.main()
