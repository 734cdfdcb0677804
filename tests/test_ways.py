"""Points 13 and 14, with points 2, 3 and 8 to 11: ways, their deeds, and the plain way."""

import itertools
import random
import unittest

from shadowpages.errors import Fault, HouseError, NoImage, NoPage, NoPlace, NoShelf, NoWord
from shadowpages.places import place_of
from shadowpages.rows import row_of
from shadowpages.store import Store
from shadowpages.ways import Plain, Ways
from things import LONG, NO_CELLS, NO_WHOLES, NO_WORDS, TOP, no_numbers

TRUTHS = (False, True)
P, W, K, T, S = 1, 2, 4, 8, 16
SIZE = 6
ROOT, LOW, GOAL, OTHER, GONE = 0, 3, 5, 2, 4
PLACE = 83  # outer 1, inner 2, cell 3
NUMBER = 10
NO_SHELVES = NO_WHOLES + (0, 13, -1, -12, LONG, -LONG)
NO_IMAGES = ([], [[0] * 8] * 25, [[0] * 7], [[0] * 9], [[0] * 7 + [TOP]], ([0] * 8,), None, True, "-", 1, [1], {})


def image(words):
    """SIZE pages of noughts, GONE not there, but for the words told by spots (page, cell)."""
    pages = [None if page == GONE else [0] * 8 for page in range(SIZE)]
    for spot, word in words.items():
        pages[spot[0]][spot[1]] = word
    return pages


def guest(words, most=3, said=()):
    return Plain(image(words), most, list(said))


def mapped(top_marks=P | W, low_marks=P | W, goal=GOAL, most=3):
    """PLACE leads to GOAL by tables on ROOT and LOW; GOAL has the words 50 to 57, OTHER 20 to 27."""
    words = {(page, cell): page * 10 + cell for page in (GOAL, OTHER) for cell in range(8)}
    words[(ROOT, 1)] = row_of(LOW, top_marks)
    words[(LOW, 2)] = row_of(goal, low_marks)
    return guest(words, most)


def spread(most, many=8):
    """The places 0, 8, 16 .. lead to GOAL, each number by a low row of its own."""
    words = {(LOW, inner): row_of(GOAL, P | W) for inner in range(many)}
    words[(ROOT, 0)] = row_of(LOW, P | W)
    return guest(words, most)


def state(way):
    return (way.root(), way.shelf(), way.pages())


class Cases(unittest.TestCase):
    def refused(self, way, kind, asked, *things):
        """asked is refused with just this class, and changes nothing."""
        ahead = state(way)
        with self.assertRaises(HouseError) as caught:
            asked(*things)
        self.assertIs(type(caught.exception), kind)
        self.assertEqual(state(way), ahead)

    def faulted(self, way, fault, asked, *things):
        """asked is this fault, and changes nothing."""
        ahead = state(way)
        with self.assertRaises(HouseError) as caught:
            asked(*things)
        self.assertIs(type(caught.exception), Fault)
        self.assertEqual((caught.exception.kind, caught.exception.place, caught.exception.level), fault)
        self.assertEqual(state(way), ahead)

    def all_faulted(self, way, fault, write, kernel, place=PLACE):
        """Each deed that reaches the place is this fault."""
        self.faulted(way, fault, way.reach, place, write, kernel)
        if write:
            self.faulted(way, fault, way.save, place, 77, kernel)
        else:
            self.faulted(way, fault, way.load, place, kernel)


class Making(unittest.TestCase):
    def test_what_it_is(self):
        way = Plain([[0] * 8], 1, [])
        self.assertIsInstance(way, Plain)
        self.assertIsInstance(way, Ways)
        self.assertIsInstance(way, Store)
        self.assertTrue(issubclass(Ways, Store))
        self.assertIsInstance(Ways(3), Store)

    def test_at_first(self):
        pages = image({(0, 0): 5, (5, 7): TOP - 1})
        way = Plain(pages, 3, [True])
        self.assertEqual(state(way), (0, [], pages))
        self.assertEqual(way.size(), SIZE)
        self.assertEqual([way.has(page) for page in range(SIZE)], [True, True, True, True, False, True])

    def test_of_1_and_24_pages_and_shelves_of_1_and_12(self):
        for size, most in itertools.product((1, 24), (1, 12)):
            for page in (None, list(range(8))):
                way = Plain([page] * size, most, [])
                self.assertEqual(state(way), (0, [], [page] * size))
                self.assertEqual(way.size(), size)

    def test_by_its_arguments_names(self):
        way = Plain(pages=[None], most=1, words=[True])
        self.assertIs(way.want(page=0), True)
        self.assertIs(way.give(page=0), True)
        way.want(0)
        self.assertEqual(Ways(most=2).shelf(), [])

    def kind_refused(self, pages, most):
        with self.assertRaises(HouseError) as caught:
            Plain(pages, most, [])
        return type(caught.exception)

    def test_refused_for_the_pages(self):
        for pages in NO_IMAGES:
            for most in (1, 12):
                self.assertIs(self.kind_refused(pages, most), NoImage)

    def test_refused_for_the_shelf(self):
        for most in NO_SHELVES:
            for pages in ([None], image({})):
                self.assertIs(self.kind_refused(pages, most), NoShelf)

    def test_refused_for_both(self):
        for pages in NO_IMAGES:
            for most in NO_SHELVES:
                self.assertIs(self.kind_refused(pages, most), NoImage)


class AsAStore(Cases):
    def setUp(self):
        self.way = mapped()
        self.way.load(PLACE, True)

    def test_has(self):
        for page in no_numbers(SIZE) + (GONE,):
            self.assertIs(self.way.has(page), False)
        for page in (0, 1, 2, 3, 5):
            self.assertIs(self.way.has(page), True)

    def test_read(self):
        ahead = state(self.way)
        for page in (0, 1, 2, 3, 5):
            self.assertEqual([self.way.read(page, cell) for cell in range(8)], ahead[2][page])
        self.assertEqual(state(self.way), ahead)

    def test_write(self):
        for page, cell, word in ((0, 0, 1), (0, 1, 0), (2, 7, TOP - 1), (3, 2, row_of(1, 0)), (5, 3, 9)):
            wanted = state(self.way)
            wanted[2][page][cell] = word
            self.assertIsNone(self.way.write(page, cell, word))
            self.assertEqual(state(self.way), wanted)
            self.assertEqual(self.way.read(page, cell), word)

    def test_refused(self):
        way = self.way
        for page in no_numbers(SIZE) + (GONE,):
            self.refused(way, NoPage, way.read, page, 0)
            self.refused(way, NoPage, way.read, page, 8)
            self.refused(way, NoPage, way.write, page, 0, 77)
            self.refused(way, NoPage, way.write, page, 8, TOP)
        for cell in NO_CELLS:
            self.refused(way, NoPlace, way.read, 0, cell)
            self.refused(way, NoPlace, way.write, 0, cell, 77)
            self.refused(way, NoPlace, way.write, 0, cell, TOP)
        for word in NO_WORDS:
            self.refused(way, NoWord, way.write, 0, 0, word)

    def test_by_their_arguments_names(self):
        self.way.write(page=1, cell=2, word=3)
        self.assertEqual(self.way.read(page=1, cell=2), 3)
        self.assertIs(self.way.has(page=1), True)


class Faults(Cases):
    def test_far(self):
        for place, write, kernel in itertools.product((512, 513, 512 + PLACE, TOP - 1), TRUTHS, TRUTHS):
            way = mapped()
            way.load(PLACE, True)
            self.all_faulted(way, ("far", place, 0), write, kernel, place)

    def test_far_goes_ahead_of_the_root(self):
        for root, write, kernel in itertools.product((GONE, SIZE, TOP - 1), TRUTHS, TRUTHS):
            way = mapped()
            way.turn_root(root)
            self.all_faulted(way, ("far", 512, 0), write, kernel, 512)

    def test_beyond_at_the_root(self):
        for root, write, kernel in itertools.product((GONE, SIZE, 24, 2 ** 40, TOP - 1), TRUTHS, TRUTHS):
            way = mapped()
            way.turn_root(root)
            self.all_faulted(way, ("beyond", PLACE, 0), write, kernel)

    def test_absent(self):
        for marks, write, kernel in itertools.product((0, W | K | T | S, 224), TRUTHS, TRUTHS):
            self.all_faulted(mapped(top_marks=marks), ("absent", PLACE, 1), write, kernel)
            self.all_faulted(mapped(low_marks=marks), ("absent", PLACE, 2), write, kernel)

    def test_beyond(self):
        for page, write, kernel in itertools.product((GONE, SIZE, 2 ** 40 - 1), TRUTHS, TRUTHS):
            self.all_faulted(mapped(goal=page), ("beyond", PLACE, 2), write, kernel)
            way = mapped()
            way.write(ROOT, 1, row_of(page, P))
            self.all_faulted(way, ("beyond", PLACE, 1), write, kernel)

    def test_kernel(self):
        for write in TRUTHS:
            self.all_faulted(mapped(top_marks=P | K), ("kernel", PLACE, 1), write, False)
            self.all_faulted(mapped(low_marks=P | K), ("kernel", PLACE, 2), write, False)

    def test_fixed(self):
        for kernel in TRUTHS:
            self.all_faulted(mapped(top_marks=P | T), ("fixed", PLACE, 1), True, kernel)
            self.all_faulted(mapped(low_marks=P | T), ("fixed", PLACE, 2), True, kernel)

    def test_the_top_row_is_not_marked_for_a_fault_at_the_low_one(self):
        way = mapped(low_marks=0)
        self.faulted(way, ("absent", PLACE, 2), way.load, PLACE, True)
        self.assertEqual(way.read(ROOT, 1), row_of(LOW, P | W))

    def test_a_fault_is_not_remembered(self):
        way = mapped(low_marks=0)
        self.faulted(way, ("absent", PLACE, 2), way.load, PLACE, True)
        way.write(LOW, 2, row_of(GOAL, P))
        self.assertEqual(way.load(PLACE, True), 53)

    def test_a_stale_row_stays_behind_a_fault(self):
        way = mapped()
        way.load(PLACE, False)
        way.write(ROOT, 1, 0)
        self.assertEqual(way.shelf(), [(NUMBER, GOAL, 2)])
        self.all_faulted(way, ("absent", PLACE, 1), True, False)
        self.assertEqual(way.load(PLACE, False), 53)


class Walked(unittest.TestCase):
    def test_load(self):
        for kernel in TRUTHS:
            way = mapped()
            self.assertEqual(way.load(PLACE, kernel), 53)
            wanted = mapped()
            wanted.write(ROOT, 1, row_of(LOW, P | W | T))
            wanted.write(LOW, 2, row_of(GOAL, P | W | T))
            self.assertEqual(state(way), (0, [(NUMBER, GOAL, 2)], wanted.pages()))

    def test_save(self):
        for kernel in TRUTHS:
            way = mapped()
            self.assertIsNone(way.save(PLACE, 77, kernel))
            wanted = mapped()
            wanted.write(ROOT, 1, row_of(LOW, P | W | T))
            wanted.write(LOW, 2, row_of(GOAL, P | W | T | S))
            wanted.write(GOAL, 3, 77)
            self.assertEqual(state(way), (0, [(NUMBER, GOAL, 18)], wanted.pages()))

    def test_reach(self):
        for write, kernel in itertools.product(TRUTHS, TRUTHS):
            way, other = mapped(), mapped()
            page = way.reach(PLACE, write, kernel)
            self.assertIs(type(page), int)
            self.assertEqual(page, GOAL)
            if write:
                other.save(PLACE, 53, kernel)
            else:
                other.load(PLACE, kernel)
            self.assertEqual(state(way), state(other))

    def test_each_cell(self):
        for cell in range(8):
            way = mapped()
            self.assertEqual(way.load(80 + cell, False), 50 + cell)
            way.save(80 + cell, TOP - 1, False)
            wanted = [50, 51, 52, 53, 54, 55, 56, 57]
            wanted[cell] = TOP - 1
            self.assertEqual(way.pages()[GOAL], wanted)

    def test_the_first_and_the_last_place(self):
        for place in (0, 511):
            way = guest({(0, 0): row_of(3, 3), (0, 7): row_of(3, 3), (3, 0): row_of(5, 3), (3, 7): row_of(5, 3)})
            way.save(place, 77, False)
            self.assertEqual(way.pages()[5][place % 8], 77)
            self.assertEqual(way.shelf(), [(place // 8, 5, 18)])

    def test_the_rights_kept(self):
        for top_marks, low_marks, rights in (
            (P, P, 0), (P | W, P, 0), (P, P | W, 0), (P | W, P | W, 2), (P | K, P, 4), (P, P | K, 4),
            (P | W | K, P | W, 6), (P, P | S, 16), (P | S, P, 0), (P | W, P | W | S, 18), (P | W | K, P | W | S, 22),
        ):
            way = mapped(top_marks, low_marks)
            way.load(PLACE, True)
            self.assertEqual(way.shelf(), [(NUMBER, GOAL, rights)])
            if rights & 2:
                way = mapped(top_marks, low_marks)
                way.save(PLACE, 1, True)
                self.assertEqual(way.shelf(), [(NUMBER, GOAL, rights | 16)])

    def test_from_the_root(self):
        way = mapped()
        way.write(OTHER, 1, row_of(LOW, P))
        way.turn_root(OTHER)
        self.assertEqual(way.load(PLACE, False), 53)
        self.assertEqual(way.read(OTHER, 1), row_of(LOW, P | T))
        self.assertEqual(way.read(ROOT, 1), row_of(LOW, P | W))

    def test_both_rows_in_one_word(self):
        for write in TRUTHS:
            way = guest({(ROOT, 0): row_of(ROOT, P | W)})
            self.assertEqual(way.reach(0, write, False), ROOT)
            marks = P | W | T | S if write else P | W | T
            self.assertEqual(way.read(ROOT, 0), row_of(ROOT, marks))
            self.assertEqual(way.shelf(), [(0, ROOT, 18 if write else 2)])

    def test_a_load_of_a_row_just_walked(self):
        way = guest({(ROOT, 0): row_of(ROOT, P | W)})
        self.assertEqual(way.load(0, False), row_of(ROOT, P | W | T))

    def test_a_save_onto_rows_just_walked(self):
        way = guest({(ROOT, 0): row_of(ROOT, P | W)})
        way.save(0, 77, False)
        self.assertEqual(way.pages(), image({(ROOT, 0): 77}))
        self.assertEqual(way.shelf(), [(0, ROOT, 18)])
        for goal, cell, other in ((ROOT, 1, (LOW, 2)), (LOW, 2, (ROOT, 1))):
            way = guest({(ROOT, 1): row_of(LOW, P | W), (LOW, 2): row_of(goal, P | W)})
            way.save(place_of(1, 2, cell), 0, False)
            rows = {(ROOT, 1): row_of(LOW, P | W | T), (LOW, 2): row_of(goal, P | W | T | S)}
            self.assertEqual(way.pages(), image({other: rows[other]}))
            self.assertEqual(way.shelf(), [(NUMBER, goal, 18)])

    def test_the_oldest_row_is_put_out(self):
        for most in range(1, 13):
            way = spread(most)
            for inner in range(8):
                way.load(8 * inner, False)
                first = max(0, inner + 1 - most)
                self.assertEqual(way.shelf(), [(number, GOAL, 2) for number in range(first, inner + 1)])

    def test_by_their_arguments_names(self):
        way = mapped()
        self.assertEqual(way.load(place=PLACE, kernel=False), 53)
        self.assertIsNone(way.save(place=PLACE, word=7, kernel=False))
        self.assertEqual(way.reach(place=PLACE, write=True, kernel=True), GOAL)


class Noted(Plain):
    """A plain way that notes what is read and written."""

    def __init__(self, pages, most, words):
        self.noted = []
        Plain.__init__(self, pages, most, words)

    def read(self, page, cell):
        self.noted.append((page, cell))
        return Plain.read(self, page, cell)

    def write(self, page, cell, word):
        self.noted.append((page, cell, word))
        Plain.write(self, page, cell, word)


class ByTheShelf(Cases):
    def unmarked(self, way, top_row, low_row):
        """The two rows as told now, and all that is to stay as it is."""
        way.write(ROOT, 1, top_row)
        way.write(LOW, 2, low_row)
        return state(way)

    def test_nothing_is_walked(self):
        way = Noted(mapped().pages(), 3, [])
        way.save(PLACE, 77, False)
        self.assertEqual({spot[:2] for spot in way.noted}, {(ROOT, 1), (LOW, 2), (GOAL, 3)})
        way.noted.clear()
        for write, kernel in itertools.product(TRUTHS, TRUTHS):
            self.assertEqual(way.reach(PLACE, write, kernel), GOAL)
        self.assertEqual(way.noted, [])
        way.load(PLACE, False)
        way.save(PLACE, 78, False)
        self.assertEqual(way.noted, [(GOAL, 3), (GOAL, 3, 78)])

    def test_nothing_is_marked(self):
        way = mapped()
        way.save(PLACE, 77, False)
        ahead = self.unmarked(way, row_of(LOW, P | W), row_of(GOAL, P | W))
        self.assertEqual(way.load(PLACE, False), 77)
        self.assertEqual(way.reach(PLACE, True, False), GOAL)
        self.assertEqual(state(way), ahead)
        way.save(PLACE, 78, True)
        ahead[2][GOAL][3] = 78
        self.assertEqual(state(way), ahead)

    def test_the_tables_may_have_changed(self):
        for top_row, low_row in (
            (0, 0), (row_of(LOW, P | W), row_of(OTHER, P | W)), (row_of(GONE, P), 0), (row_of(LOW, P | K), 5),
            (row_of(LOW, P), row_of(GOAL, P)),
        ):
            way = mapped()
            way.save(PLACE, 77, False)
            ahead = self.unmarked(way, top_row, low_row)
            for kernel in TRUTHS:
                self.assertEqual(way.load(PLACE, kernel), 77)
                way.save(PLACE, 77, kernel)
            self.assertEqual(state(way), ahead)

    def test_also_where_the_root_is_given_up(self):
        way = mapped()
        way.save(PLACE, 77, False)
        way.give(ROOT)
        ahead = state(way)
        self.assertEqual(way.load(PLACE, False), 77)
        self.assertEqual(state(way), ahead)

    def test_other_cells_of_the_number(self):
        way = mapped()
        way.save(PLACE, 77, False)
        self.unmarked(way, 0, 0)
        self.assertEqual([way.load(place, False) for place in range(80, 88)], [50, 51, 52, 77, 54, 55, 56, 57])
        self.faulted(way, ("absent", 88, 1), way.load, 88, False)
        self.faulted(way, ("absent", 79, 1), way.load, 79, False)

    def test_a_place_above_511_is_far_though_its_number_would_be_there(self):
        way = guest({(ROOT, 0): row_of(ROOT, P | W)})
        way.save(0, row_of(ROOT, P | W), False)
        self.all_faulted(way, ("far", 512, 0), False, True, 512)
        self.all_faulted(way, ("far", 64 * 8, 0), True, True, 64 * 8)

    def test_a_save_behind_a_load_is_walked_anew(self):
        way = mapped()
        way.load(PLACE, False)
        self.unmarked(way, row_of(LOW, P | W), row_of(OTHER, P | W))
        way.save(PLACE, 77, False)
        self.assertEqual(way.shelf(), [(NUMBER, OTHER, 18)])
        self.assertEqual(way.read(ROOT, 1), row_of(LOW, P | W | T))
        self.assertEqual(way.read(LOW, 2), row_of(OTHER, P | W | T | S))
        self.assertEqual((way.read(GOAL, 3), way.read(OTHER, 3)), (53, 77))

    def test_a_save_behind_a_load_of_a_soiled_row_is_not(self):
        way = mapped(low_marks=P | W | S)
        way.load(PLACE, False)
        ahead = self.unmarked(way, 0, 0)
        way.save(PLACE, 53, False)
        self.assertEqual(state(way), ahead)

    def test_a_save_to_what_is_fixed_on_the_shelf_is_walked_anew(self):
        way = mapped(low_marks=P | S)
        way.load(PLACE, False)
        self.all_faulted(way, ("fixed", PLACE, 2), True, True)
        way.write(LOW, 2, row_of(GOAL, P | W))
        way.save(PLACE, 77, True)
        self.assertEqual(way.shelf(), [(NUMBER, GOAL, 18)])

    def test_the_kernels_alone_in_the_users_mode_is_walked_anew(self):
        way = mapped(low_marks=P | W | K | S)
        way.load(PLACE, True)
        self.assertEqual(way.shelf(), [(NUMBER, GOAL, 22)])
        for write in TRUTHS:
            self.all_faulted(way, ("kernel", PLACE, 2), write, False)
        way.write(LOW, 2, row_of(OTHER, P))
        self.assertEqual(way.load(PLACE, True), 53)
        self.assertEqual(way.load(PLACE, False), 23)
        self.assertEqual(way.shelf(), [(NUMBER, OTHER, 0)])

    def test_a_row_whose_page_is_not_there_is_walked_anew(self):
        way = mapped()
        way.save(PLACE, 77, False)
        way.give(GOAL)
        self.assertEqual(way.shelf(), [(NUMBER, GOAL, 18)])
        for write, kernel in itertools.product(TRUTHS, TRUTHS):
            self.all_faulted(way, ("beyond", PLACE, 2), write, kernel)
        way.write(LOW, 2, row_of(OTHER, P))
        self.assertEqual(way.load(PLACE, False), 23)
        self.assertEqual(way.shelf(), [(NUMBER, OTHER, 0)])

    def test_a_row_whose_page_came_back(self):
        way = Plain(mapped().pages(), 3, [True])
        way.save(PLACE, 77, False)
        way.give(GOAL)
        way.want(GOAL)
        ahead = self.unmarked(way, 0, 0)
        self.assertEqual(way.load(PLACE, False), 0)
        self.assertEqual(state(way), ahead)

    def test_walked_anew_it_stays_at_its_seat(self):
        way = spread(3)
        for place in (0, 8, 16):
            way.load(place, False)
        way.save(0, 77, False)
        self.assertEqual(way.shelf(), [(0, GOAL, 18), (1, GOAL, 2), (2, GOAL, 2)])
        way.load(24, False)
        self.assertEqual(way.shelf(), [(1, GOAL, 2), (2, GOAL, 2), (3, GOAL, 2)])

    def test_reached_by_the_shelf_a_row_grows_no_younger(self):
        way = spread(2)
        for place in (0, 8, 0, 16):
            way.load(place, False)
        self.assertEqual(way.shelf(), [(1, GOAL, 2), (2, GOAL, 2)])


class Spots(Cases):
    def test_peek(self):
        way = mapped()
        way.load(PLACE, True)
        ahead = state(way)
        for page in (0, 1, 2, 3, 5):
            self.assertEqual([way.peek(8 * page + cell) for cell in range(8)], ahead[2][page])
        self.assertEqual(state(way), ahead)

    def test_poke(self):
        way = mapped()
        way.load(PLACE, True)
        for page, cell, word in itertools.product((0, 1, 2, 3, 5), range(8), (0, 77, TOP - 1)):
            wanted = state(way)
            wanted[2][page][cell] = word
            self.assertIsNone(way.poke(8 * page + cell, word))
            self.assertEqual(state(way), wanted)

    def test_of_a_page_that_is_not_there(self):
        way = mapped()
        way.load(PLACE, True)
        for spot in (32, 33, 39, 48, 49, 192, 511, 512, 2 ** 40, TOP - 1):
            self.faulted(way, ("beyond", spot, 0), way.peek, spot)
            self.faulted(way, ("beyond", spot, 0), way.poke, spot, 77)

    def test_a_page_given_up(self):
        way = mapped()
        way.give(GOAL)
        for spot in range(40, 48):
            self.faulted(way, ("beyond", spot, 0), way.peek, spot)
            self.faulted(way, ("beyond", spot, 0), way.poke, spot, 77)

    def test_without_tables(self):
        way = mapped()
        way.turn_root(TOP - 1)
        way.poke(40, 7)
        self.assertEqual(way.peek(40), 7)
        self.assertEqual(state(way)[:2], (TOP - 1, []))

    def test_by_their_arguments_names(self):
        way = mapped()
        self.assertIsNone(way.poke(spot=9, word=3))
        self.assertEqual(way.peek(spot=9), 3)


class RootAndDrop(unittest.TestCase):
    def test_turn_root(self):
        for root in (0, 1, GONE, SIZE, 2 ** 40, TOP - 1):
            way = mapped()
            way.load(PLACE, True)
            pages = way.pages()
            self.assertIsNone(way.turn_root(root))
            self.assertEqual(state(way), (root, [], pages))

    def test_the_same_root_empties_the_shelf_too(self):
        for root in (ROOT, OTHER):
            way = mapped()
            way.write(OTHER, 1, row_of(LOW, P))
            way.turn_root(root)
            way.load(PLACE, True)
            self.assertEqual(len(way.shelf()), 1)
            way.turn_root(root)
            self.assertEqual(state(way)[:2], (root, []))

    def test_emptied_it_is_walked_anew(self):
        way = mapped()
        way.load(PLACE, True)
        way.write(LOW, 2, row_of(OTHER, P))
        self.assertEqual(way.load(PLACE, True), 53)
        way.turn_root(way.root())
        self.assertEqual(way.load(PLACE, True), 23)

    def test_drop(self):
        way = spread(4)
        for place in (0, 8, 16, 24):
            way.load(place, False)
        pages = way.pages()
        self.assertIsNone(way.drop(15))
        self.assertEqual(state(way), (0, [(0, GOAL, 2), (2, GOAL, 2), (3, GOAL, 2)], pages))
        self.assertIsNone(way.drop(0))
        self.assertEqual(state(way), (0, [(2, GOAL, 2), (3, GOAL, 2)], pages))

    def test_drop_of_each_place_of_a_number(self):
        for place in range(80, 88):
            way = mapped()
            way.load(PLACE, True)
            way.drop(place)
            self.assertEqual(way.shelf(), [])

    def test_dropped_it_is_walked_anew(self):
        way = mapped()
        way.load(PLACE, True)
        way.write(LOW, 2, row_of(OTHER, P))
        way.drop(PLACE)
        self.assertEqual(way.load(PLACE, True), 23)

    def test_drop_where_nothing_is_done(self):
        words = {(ROOT, outer): row_of(ROOT, P | W) for outer in (0, 7)}
        way = guest(words)
        way.load(0, False)
        way.load(511, False)
        ahead = state(way)
        self.assertEqual([row[0] for row in ahead[1]], [0, 63])
        for place in (8, 79, 503, 512, 513, 519, 1023, 512 + 511, TOP - 1):
            self.assertIsNone(way.drop(place))
            self.assertEqual(state(way), ahead)

    def test_by_their_arguments_names(self):
        way = mapped()
        way.load(PLACE, True)
        way.drop(place=PLACE)
        way.turn_root(root=2)
        self.assertEqual(state(way)[:2], (2, []))


class GiveAndWant(unittest.TestCase):
    def test_give(self):
        for page in (0, 1, 2, 3, 5):
            way = mapped()
            way.load(PLACE, True)
            wanted = state(way)
            wanted[2][page] = None
            self.assertIs(way.give(page), True)
            self.assertEqual(state(way), wanted)
            self.assertIs(way.has(page), False)
            self.assertEqual(way.size(), SIZE)
            self.assertIs(way.give(page), False)
            self.assertEqual(state(way), wanted)

    def test_give_of_what_is_not_there(self):
        way = mapped()
        way.load(PLACE, True)
        ahead = state(way)
        for page in (GONE, SIZE, SIZE + 1, 24, 2 ** 40, TOP - 1):
            self.assertIs(way.give(page), False)
            self.assertEqual(state(way), ahead)

    def test_want(self):
        way = guest({(5, 0): 7}, 3, [True, True])
        ahead = way.pages()
        self.assertIs(way.want(GONE), True)
        self.assertEqual(way.pages(), ahead[:GONE] + [[0] * 8] + ahead[GONE + 1:])
        way.give(5)
        self.assertIs(way.want(5), True)
        self.assertEqual(way.pages()[5], [0] * 8)

    def test_a_page_wanted_back_has_eight_noughts_of_its_own(self):
        way = guest({}, 3, [True] * 3)
        way.give(5)
        way.want(GONE)
        way.want(5)
        way.write(GONE, 0, 7)
        self.assertEqual(way.pages()[5], [0] * 8)
        way.give(GONE)
        way.want(GONE)
        self.assertEqual(way.pages()[GONE], [0] * 8)

    def test_the_house_says_no(self):
        way = guest({}, 3, [False, True, False])
        ahead = state(way)
        self.assertIs(way.want(GONE), False)
        self.assertEqual(state(way), ahead)
        self.assertIs(way.want(GONE), True)
        self.assertIs(way.has(GONE), True)
        way.give(GONE)
        self.assertIs(way.want(GONE), False)
        self.assertEqual(state(way), ahead)

    def test_behind_the_last_word(self):
        for said in ([], [True], [False, True]):
            way = guest({}, 3, said)
            told = []
            for step in range(4):
                told.append(way.want(GONE))
                way.give(GONE)
            self.assertEqual(told, said + [False] * (4 - len(said)))

    def test_where_the_house_is_not_asked(self):
        way = guest({}, 3, [True])
        ahead = state(way)
        for page in (0, 5, SIZE, SIZE + 1, 24, 2 ** 40, TOP - 1):
            self.assertIs(way.want(page), False)
            self.assertEqual(state(way), ahead)
        self.assertIs(way.want(GONE), True)

    def test_rows_on_the_shelf_stay(self):
        way = Plain(mapped().pages(), 3, [True])
        way.load(PLACE, True)
        way.give(GOAL)
        self.assertEqual(way.shelf(), [(NUMBER, GOAL, 2)])
        way.want(GOAL)
        self.assertEqual(way.shelf(), [(NUMBER, GOAL, 2)])
        self.assertEqual(way.load(PLACE, True), 0)

    def test_the_page_at_the_ends(self):
        way = Plain([None] * 24, 1, [True, True])
        self.assertIs(way.want(24), False)
        self.assertIs(way.want(23), True)
        self.assertIs(way.want(0), True)
        self.assertEqual(way.pages(), [[0] * 8] + [None] * 22 + [[0] * 8])


class Behind(unittest.TestCase):
    """What is done behind a call to what was handed in or told."""

    def test_the_pages_handed_in(self):
        pages = image({})
        way = Plain(pages, 3, [True])
        pages[0][0] = 99
        pages[4] = [1] * 8
        pages.pop()
        self.assertEqual(way.pages(), image({}))
        pages = image({})
        way = Plain(pages, 3, [True])
        way.write(0, 0, 99)
        way.give(1)
        way.want(GONE)
        self.assertEqual(pages, image({}))

    def test_the_words_handed_in(self):
        words = [True]
        way = Plain([None, None], 3, words)
        words[0] = False
        words.append(True)
        self.assertEqual([way.want(0), way.want(1)], [True, False])
        words = [True, True]
        way = Plain([None, None], 3, words)
        way.want(0)
        self.assertEqual(words, [True, True])

    def test_the_lists_told(self):
        way = mapped()
        way.load(PLACE, True)
        ahead = state(way)
        pages, shelf = way.pages(), way.shelf()
        pages[0][0] = 99
        pages[1] = None
        pages.pop()
        shelf.append((1, 2, 3))
        shelf[0] = (0, 0, 0)
        self.assertEqual(state(way), ahead)

    def test_the_lists_told_stay(self):
        way = Plain(mapped().pages(), 3, [True])
        way.load(PLACE, True)
        pages, shelf = way.pages(), way.shelf()
        wanted = ([None if page is None else list(page) for page in pages], list(shelf))
        way.save(PLACE, 99, True)
        way.give(1)
        way.want(GONE)
        way.turn_root(2)
        self.assertEqual((pages, shelf), wanted)

    def test_two_ways_of_one_list(self):
        pages, words = image({(ROOT, 0): row_of(ROOT, P | W)}), [True]
        one, other = Plain(pages, 3, words), Plain(pages, 3, words)
        one.save(1, 99, True)
        one.give(1)
        one.want(GONE)
        self.assertEqual(state(other), (0, [], image({(ROOT, 0): row_of(ROOT, P | W)})))
        one.turn_root(2)
        self.assertEqual(other.root(), 0)
        self.assertIs(other.want(GONE), True)

    def test_kinds_told(self):
        way = mapped()
        way.load(PLACE, True)
        self.assertEqual([type(part) for part in state(way)], [int, list, list])
        self.assertEqual([type(row) for row in way.shelf()], [tuple])
        self.assertEqual([type(page) for page in way.pages()], [list, list, list, list, type(None), list])


class Refusals(Cases):
    def test_a_save_or_poke_of_what_is_no_word_changes_nothing(self):
        way = mapped()
        for word in NO_WORDS:
            self.refused(way, NoWord, way.save, PLACE, word, True)
            self.refused(way, NoWord, way.poke, 0, word)


class Model:
    """A way told once more, after point 13, over plain lists; a fault is told as a tuple."""

    def __init__(self, pages, most, words):
        self.pages = [None if page is None else list(page) for page in pages]
        self.most, self.words = most, list(words)
        self.root, self.rows = 0, []

    def state(self):
        return (self.root, self.rows, self.pages)

    def has(self, page):
        return page < len(self.pages) and self.pages[page] is not None

    def row_fault(self, row, write, kernel):
        if row % 2 == 0:
            return "absent"
        if not self.has(row >> 8):
            return "beyond"
        if row & K and not kernel:
            return "kernel"
        return "fixed" if write and not row & W else None

    def walked(self, place, write, kernel):
        if place > 511:
            return ("far", place, 0)
        if not self.has(self.root):
            return ("beyond", place, 0)
        page, spots, rows = self.root, [], []
        for level, cell in ((1, place // 64), (2, place // 8 % 8)):
            row = self.pages[page][cell]
            kind = self.row_fault(row, write, kernel)
            if kind is not None:
                return (kind, place, level)
            spots.append((page, cell))
            rows.append(row)
            page = row >> 8
        rights = rows[0] & rows[1] & W | (rows[0] | rows[1]) & K | (S if write else rows[1] & S)
        for spot, marks in zip(spots, (T, T | S if write else T)):
            self.pages[spot[0]][spot[1]] |= marks
        self.keep((place // 8, page, rights))
        return page

    def keep(self, row):
        numbers = [other[0] for other in self.rows]
        if row[0] in numbers:
            self.rows[numbers.index(row[0])] = row
        else:
            self.rows = (self.rows + [row])[-self.most:]

    def reach(self, place, write, kernel):
        for number, page, rights in self.rows:
            let = (kernel or not rights & 4) and (not write or rights & 18 == 18)
            if 8 * number <= place < 8 * number + 8 and self.has(page) and let:
                return page
        return self.walked(place, write, kernel)

    def load(self, place, kernel):
        page = self.reach(place, False, kernel)
        return page if isinstance(page, tuple) else self.pages[page][place % 8]

    def save(self, place, word, kernel):
        page = self.reach(place, True, kernel)
        if isinstance(page, tuple):
            return page
        self.pages[page][place % 8] = word

    def peek(self, spot):
        return self.pages[spot // 8][spot % 8] if self.has(spot // 8) else ("beyond", spot, 0)

    def poke(self, spot, word):
        if not self.has(spot // 8):
            return ("beyond", spot, 0)
        self.pages[spot // 8][spot % 8] = word

    def turn_root(self, root):
        self.root, self.rows = root, []

    def drop(self, place):
        self.rows = [row for row in self.rows if row[0] != place // 8]

    def give(self, page):
        there = self.has(page)
        if there:
            self.pages[page] = None
        return there

    def want(self, page):
        if page >= len(self.pages) or self.has(page) or not self.words or not self.words.pop(0):
            return False
        self.pages[page] = [0] * 8
        return True


def outcome(asked, things):
    """What was told, or the fault as a tuple."""
    try:
        return asked(*things)
    except Fault as fault:
        return (fault.kind, fault.place, fault.level)


class AgainstTheModel(unittest.TestCase):
    def compared(self, way, model, deed, *things):
        told, wanted = outcome(getattr(way, deed), things), outcome(getattr(model, deed), things)
        self.assertEqual((told, state(way)), (wanted, model.state()), (deed, things))

    def test_all_mixtures_of_marks(self):
        for top_marks, low_marks in itertools.product(range(32), range(32)):
            pages = mapped(top_marks, low_marks).pages()
            for write, kernel, again, again_kernel in itertools.product(TRUTHS, TRUTHS, TRUTHS, TRUTHS):
                way, model = Plain(pages, 2, []), Model(pages, 2, [])
                self.compared(way, model, "reach", PLACE, write, kernel)
                self.compared(way, model, "reach", PLACE, again, again_kernel)

    def number(self, dice):
        return dice.choice((dice.randrange(8), dice.randrange(8), 30, TOP - 1))

    def place(self, dice):
        near = dice.randrange(24)
        far = dice.choice((64 * dice.randrange(8) + near, dice.randrange(520), 512 + near, TOP - 1))
        return far if dice.random() < 0.2 else near

    def word(self, dice):
        good = row_of(dice.randrange(6), dice.choice((3, 3, 3, 1, 7, 19, 11, 27)))
        return dice.choice((good, good, good, row_of(dice.randrange(9), dice.randrange(256)), dice.randrange(TOP)))

    def things(self, dice, deed):
        kernel = dice.random() < 0.5
        if deed == "reach":
            return (self.place(dice), dice.random() < 0.5, kernel)
        if deed == "load":
            return (self.place(dice), kernel)
        if deed == "save":
            return (self.place(dice), self.word(dice), kernel)
        if deed == "poke":
            return (dice.randrange(52), self.word(dice))
        if deed in ("give", "want"):
            return (self.number(dice),)
        if deed == "turn_root":
            return (dice.choice((0, 0, 1, 2, 3, 4, 5, 6)),)
        return (self.place(dice),)

    def test_many_deeds(self):
        deeds = ["load", "save"] * 12 + ["reach"] * 6 + ["poke", "want"] * 2 + ["peek", "drop", "give", "turn_root"]
        for seed in range(120):
            dice = random.Random(seed)
            pages = [None if page == 4 else [self.word(dice) for cell in range(8)] for page in range(6)]
            words = [dice.random() < 0.7 for word in range(20)]
            most = 1 + seed % 12
            way, model = Plain(pages, most, words), Model(pages, most, words)
            for step in range(150):
                deed = dice.choice(deeds)
                self.compared(way, model, deed, *self.things(dice, deed))


if __name__ == "__main__":
    unittest.main()
