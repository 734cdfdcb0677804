"""Points 15 to 18, with points 2 and 3: what each row does, faults, turns, the core, and the bare machine."""

import itertools
import random
import unittest

from shadowpages.errors import Fault, HouseError, NoBound, NoImage, NoProgram, NoShelf
from shadowpages.machine import Machine, bare
from shadowpages.orders import KINDS
from shadowpages.rows import row_of
from shadowpages.ways import Plain
from things import LONG, NO_WHOLES, ROW_WORDS, TOP, Prickly, some_guest

TRUTHS = (False, True)
P, W, K, T, S = 1, 2, 4, 8, 16
SIZE = 6
ROOT, LOW, GOAL, OTHER, GONE = 0, 3, 5, 2, 4
PLACE = 83  # outer 1, inner 2, cell 3
FIRST = (0, 0, 0, True)
HALT = ("halt",)
MOST = TOP - 1

NO_IMAGES = ([], [[0] * 8] * 25, [[0] * 7], [[0] * 7 + [TOP]], ([0] * 8,), None, True, "-", 1, [1], Prickly())
NO_SHELVES = (0, 13, -1, True, None, "3", [], 3.0, Prickly())
# Programs and entries with the place that NoProgram has of them.
NO_PROGRAMS = (
    ([], 0, None), ([HALT] * 61, 0, None), ((HALT,), 0, None), (None, 0, None), ("halt", 0, None), (True, 0, None),
    ({0: HALT}, 0, None), (Prickly(), 0, None), ([None], 0, 0), ([HALT, ("set", 0, TOP)], 0, 1), ([("halt", 0)], 61, 0),
    ([HALT] * 59 + [["halt"]], -1, 59), ([HALT, (), None], 0, 1), ([("jump", 61)], 0, 0), ([("add", 4, 0)], 0, 0),
    ([HALT], -1, None), ([HALT], 61, None), ([HALT] * 60, True, None), ([HALT], None, None), ([HALT], "0", None),
    ([HALT], Prickly(), None),
)


def image(top_marks=P | W, low_marks=P | W, low=LOW, goal=GOAL):
    """PLACE leads to GOAL by tables on ROOT and LOW; GOAL has the words 50 to 57, OTHER 20 to 27; GONE is not there."""
    pages = [[0] * 8 for page in range(SIZE)]
    pages[GONE] = None
    for page in (GOAL, OTHER):
        pages[page] = [page * 10 + cell for cell in range(8)]
    pages[ROOT][1] = row_of(low, top_marks)
    pages[LOW][2] = row_of(goal, low_marks)
    return pages


def made(program, entry=0, pages=None, words=(), most=3):
    return bare(image() if pages is None else pages, most, list(program), entry, list(words))


def sets(held):
    """Rows that set the registers to these words."""
    return [("set", number, word) for number, word in enumerate(held)]


def with_registers(held, rows, user=False, entry=0, pages=None, words=()):
    """A machine whose registers hold these words; row 5 is the first of the rows, and is next, in either mode."""
    lead = ("user", 5) if user else ("jump", 5)
    machine = made(sets(held) + [lead] + list(rows), entry, pages, words)
    machine.turn(5)
    return machine


def ways_state(machine):
    return machine.told()[1:]


class Cases(unittest.TestCase):
    def steps(self, machine, core, events=()):
        """One step is done; the core is this one then, and so many events came in it."""
        ahead = machine.events()
        self.assertEqual(machine.turn(1), 1)
        self.assertEqual(machine.core(), core)
        self.assertEqual(machine.events(), ahead + list(events))

    def done(self, held, row, behind, kernel=True, counter=6, pages=None):
        """The row, done with these registers, leaves those behind."""
        machine = with_registers(held, [row, HALT], not kernel, pages=pages)
        self.steps(machine, (list(behind), counter, kernel, FIRST, False))
        return machine

    def faulted(self, held, row, fault, kernel=True, pages=None):
        """The row is this fault (kind, place, level), and nothing else of it is done."""
        machine = with_registers(held, [row, HALT], not kernel, 6, pages)
        ahead = ways_state(machine)
        saved = (1 + KINDS.index(fault[0]), fault[1], 5, kernel)
        self.steps(machine, (list(held), 6, True, saved, False), [("fault",) + fault + (5,)])
        self.assertEqual(ways_state(machine), ahead)
        return machine


class AtFirst(unittest.TestCase):
    def test_the_core(self):
        for entry in (0, 1, 60):
            machine = made([("tell", 0), HALT], entry)
            self.assertEqual(machine.core(), ([0, 0, 0, 0], 0, True, FIRST, False))
            self.assertEqual(machine.events(), [])
            self.assertEqual(machine.told(), (machine.core(), 0, [], image()))
            self.assertEqual(machine.program(), [("tell", 0), HALT])
            self.assertEqual(machine.entry(), entry)

    def test_a_bare_machine_is_a_machine(self):
        self.assertIs(type(made([HALT])), Machine)

    def test_by_their_arguments_names(self):
        way = Plain(image(), 3, [])
        machine = Machine(ways=way, program=[HALT], entry=1)
        self.assertEqual(machine.turn(steps=500), 1)
        other = Machine(ways=way, program=[HALT], entry=1, core=machine.core(), events=machine.events())
        self.assertEqual(other.core(), machine.core())
        machine = bare(pages=image(), most=3, program=[HALT], entry=1, words=[True])
        self.assertEqual(machine.told(), (([0, 0, 0, 0], 0, True, FIRST, False), 0, [], image()))

    def test_of_programs_of_1_and_60_rows(self):
        for many in (1, 60):
            machine = made([("tell", 0)] * many)
            self.assertEqual(machine.turn(500), many)
            self.assertEqual(machine.events(), [("told", 0)] * many)


class Counting(Cases):
    """The rows that anyone may do, and that touch no page."""

    def test_set(self):
        for kernel, number, word in itertools.product(TRUTHS, range(4), (0, 1, 77, MOST)):
            behind = [9, 8, 7, 6]
            behind[number] = word
            self.done([9, 8, 7, 6], ("set", number, word), behind, kernel)

    def test_add_both_odd(self):
        words = (0, 1, 5, 12, 10, 2 ** 47, 2 ** 47 - 1, MOST - 1, MOST)
        for one, other in itertools.product(words, words):
            self.done([3, one, 4, other], ("add", 1, 3), [3, (one + other) % TOP, 4, other])
            self.done([3, one, 4, other], ("both", 1, 3), [3, one & other, 4, other])
            self.done([3, one, 4, other], ("odd", 1, 3), [3, one ^ other, 4, other])

    def test_add_both_odd_of_the_greatest_words(self):
        self.done([MOST, MOST, 0, 0], ("add", 0, 1), [MOST - 1, MOST, 0, 0])
        self.done([MOST, 1, 0, 0], ("add", 0, 1), [0, 1, 0, 0])
        self.done([MOST, MOST, 0, 0], ("both", 0, 1), [MOST, MOST, 0, 0])
        self.done([MOST, MOST, 0, 0], ("odd", 0, 1), [0, MOST, 0, 0])

    def test_add_both_odd_of_one_with_itself(self):
        for number, word in itertools.product(range(4), (0, 1, 77, 2 ** 47, MOST)):
            held = [5, 6, 7, 8]
            held[number] = word
            for name, sum_of in (("add", 2 * word % TOP), ("both", word), ("odd", 0)):
                behind = list(held)
                behind[number] = sum_of
                self.done(held, (name, number, number), behind)

    def test_add_both_odd_of_each_two_in_each_mode(self):
        held = [12, 10, 5, 2 ** 47]
        for kernel, a, b in itertools.product(TRUTHS, range(4), range(4)):
            for name, word in (("add", held[a] + held[b]), ("both", held[a] & held[b]), ("odd", held[a] ^ held[b])):
                behind = list(held)
                behind[a] = word % TOP
                self.done(held, (name, a, b), behind, kernel)

    def test_jump(self):
        for kernel, at in itertools.product(TRUTHS, (0, 5, 6)):
            self.done([1, 2, 3, 4], ("jump", at), [1, 2, 3, 4], kernel, at)

    def test_jump_behind_the_last_row(self):
        for kernel, at in itertools.product(TRUTHS, (7, 59, 60)):
            machine = with_registers([1, 2, 3, 4], [("jump", at), HALT], not kernel)
            self.steps(machine, ([1, 2, 3, 4], at, kernel, FIRST, True))

    def test_jump_and_nought_to_the_60th_row(self):
        for row in (("jump", 59), ("nought", 0, 59)):
            machine = made([row] + [HALT] * 58 + [("tell", 1)])
            self.steps(machine, ([0] * 4, 59, True, FIRST, False))
            self.steps(machine, ([0] * 4, 60, True, FIRST, True), [("told", 0)])
        for row in (("jump", 60), ("nought", 0, 60)):
            machine = made([row] + [HALT] * 59)
            self.steps(machine, ([0] * 4, 60, True, FIRST, True))

    def test_nought(self):
        for kernel, number, at in itertools.product(TRUTHS, range(4), (0, 5, 6)):
            held = [1, 2, 3, MOST]
            self.done(held, ("nought", number, at), held, kernel, 6)
            held[number] = 0
            self.done(held, ("nought", number, at), held, kernel, at)

    def test_nought_behind_the_last_row(self):
        for kernel, at in itertools.product(TRUTHS, (7, 60)):
            machine = with_registers([0, 2, 3, 4], [("nought", 0, at), HALT], not kernel)
            self.steps(machine, ([0, 2, 3, 4], at, kernel, FIRST, True))
            self.done([1, 2, 3, 4], ("nought", 0, at), [1, 2, 3, 4], kernel, 6)

    def test_tell(self):
        for kernel, number in itertools.product(TRUTHS, range(4)):
            held = [0, 7, 2 ** 47, MOST]
            machine = with_registers(held, [("tell", number), ("tell", 1), HALT], not kernel)
            self.steps(machine, (held, 6, kernel, FIRST, False), [("told", held[number])])
            self.steps(machine, (held, 7, kernel, FIRST, False), [("told", 7)])

    def test_call(self):
        for kernel in TRUTHS:
            self.faulted([1, 2, 3, 4], ("call",), ("call", 0, 0), kernel)

    def test_halt(self):
        for kernel in TRUTHS:
            machine = with_registers([1, 2, 3, 4], [HALT, ("tell", 0)], not kernel)
            self.steps(machine, ([1, 2, 3, 4], 5, kernel, FIRST, True))
            self.assertEqual(machine.turn(500), 0)
            self.assertEqual(machine.core(), ([1, 2, 3, 4], 5, kernel, FIRST, True))
            self.assertEqual(machine.events(), [])


class Reaching(Cases):
    def test_load(self):
        for kernel, a, b in itertools.product(TRUTHS, range(4), range(4)):
            held = [1, 2, 3, 4]
            held[b] = PLACE
            behind = list(held)
            behind[a] = 53
            machine = self.done(held, ("load", a, b), behind, kernel)
            way = Plain(image(), 3, [])
            way.load(PLACE, kernel)
            self.assertEqual(ways_state(machine), (0, way.shelf(), way.pages()))

    def test_save(self):
        for kernel, a, b in itertools.product(TRUTHS, range(4), range(4)):
            held = [1, 2, 3, MOST]
            held[b] = PLACE
            machine = self.done(held, ("save", a, b), held, kernel)
            way = Plain(image(), 3, [])
            way.save(PLACE, held[a], kernel)
            self.assertEqual(ways_state(machine), (0, way.shelf(), way.pages()))

    def test_in_the_machines_mode(self):
        for marks in ((P | W | K, P | W), (P | W, P | W | K)):
            level = 1 if marks[0] & K else 2
            self.done([0, PLACE, 2, 3], ("load", 0, 1), [53, PLACE, 2, 3], True, pages=image(*marks))
            self.done([0, PLACE, 2, 3], ("save", 0, 1), [0, PLACE, 2, 3], True, pages=image(*marks))
            for name in ("load", "save"):
                fault = ("kernel", PLACE, level)
                self.faulted([0, PLACE, 2, 3], (name, 0, 1), fault, False, image(*marks))

    def test_far(self):
        for name, place, kernel in itertools.product(("load", "save"), (512, 512 + PLACE, MOST), TRUTHS):
            self.faulted([1, place, 3, 4], (name, 0, 1), ("far", place, 0), kernel)
            self.faulted([1, place, 3, 4], (name, 1, 1), ("far", place, 0), kernel)

    def test_absent(self):
        for name, marks, kernel in itertools.product(("load", "save"), (0, W | K | T | S, 224), TRUTHS):
            self.faulted([1, 2, 3, PLACE], (name, 2, 3), ("absent", PLACE, 1), kernel, image(top_marks=marks))
            self.faulted([1, 2, 3, PLACE], (name, 2, 3), ("absent", PLACE, 2), kernel, image(low_marks=marks))

    def test_beyond(self):
        for name, page, kernel in itertools.product(("load", "save"), (GONE, SIZE, 2 ** 40 - 1), TRUTHS):
            self.faulted([1, 2, 3, PLACE], (name, 2, 3), ("beyond", PLACE, 1), kernel, image(low=page))
            self.faulted([1, 2, 3, PLACE], (name, 2, 3), ("beyond", PLACE, 2), kernel, image(goal=page))

    def test_beyond_at_the_root(self):
        for name, root in itertools.product(("load", "save"), (GONE, SIZE, MOST)):
            machine = with_registers([root, PLACE, 7, 8], [("root", 0), (name, 2, 1), HALT])
            machine.turn(1)
            ahead = ways_state(machine)
            self.assertEqual(ahead[0], root)
            core = ([root, PLACE, 7, 8], 0, True, (3, PLACE, 6, True), False)
            self.steps(machine, core, [("fault", "beyond", PLACE, 0, 6)])
            self.assertEqual(ways_state(machine), ahead)

    def test_fixed(self):
        for kernel in TRUTHS:
            for pages, level in ((image(top_marks=P | T), 1), (image(low_marks=P | T), 2)):
                self.faulted([1, PLACE, 3, 4], ("save", 0, 1), ("fixed", PLACE, level), kernel, pages)
                self.done([1, PLACE, 3, 4], ("load", 0, 1), [53, PLACE, 3, 4], kernel, pages=pages)

    def test_the_shelf_goes_stale_until_it_is_told(self):
        held = [PLACE, row_of(OTHER, P), 8 * LOW + 2, 0]
        rows = [("load", 3, 0), ("poke", 1, 2), ("load", 3, 0), ("tell", 3), ("drop", 0), ("load", 3, 0), ("tell", 3)]
        machine = with_registers(held, rows)
        machine.turn(500)
        self.assertEqual(machine.events(), [("told", 53), ("told", 23)])


class TheKernelsOwn(Cases):
    ROWS = (
        ("peek", 0, 1), ("poke", 0, 1), ("root", 0), ("drop", 2), ("give", 0), ("want", 3), ("why", 1, 2), ("back",),
        ("past",), ("user", 6), ("user", 0), ("user", 60),
    )

    def test_in_the_users_mode(self):
        for row in self.ROWS:
            self.faulted([OTHER, 8 * GOAL, PLACE, GONE], row, ("deed", 0, 0), False)

    def test_in_the_users_mode_with_something_to_lose(self):
        # The number of PLACE is on the shelf, and the house would say yes.
        for row in self.ROWS:
            rows = [("load", 1, 2), ("user", 7), row, HALT]
            machine = with_registers([OTHER, 0, PLACE, GONE], rows, entry=8, words=[True])
            machine.turn(2)
            ahead = ways_state(machine)
            self.assertEqual(len(ahead[1]), 1)
            core = ([OTHER, 53, PLACE, GONE], 8, True, (6, 0, 7, False), False)
            self.steps(machine, core, [("fault", "deed", 0, 0, 7)])
            self.assertEqual(ways_state(machine), ahead)

    def test_a_wish_in_the_users_mode_asks_nobody(self):
        rows = [("user", 6), ("want", 3), ("want", 3), HALT]
        machine = with_registers([0, 0, 0, GONE], rows, entry=7, words=[True])
        machine.turn(500)
        self.assertEqual(machine.core()[0], [0, 0, 0, 1])

    def test_fault_beyond_where_the_mode_is_the_users(self):
        for name in ("peek", "poke"):
            self.faulted([0, 8 * GONE, 0, 0], (name, 0, 1), ("deed", 0, 0), False)

    def test_peek(self):
        for a, b, cell in itertools.product(range(4), range(4), (0, 7)):
            held = [1, 2, 3, 4]
            held[b] = 8 * GOAL + cell
            behind = list(held)
            behind[a] = 50 + cell
            machine = self.done(held, ("peek", a, b), behind)
            self.assertEqual(ways_state(machine), (0, [], image()))

    def test_poke(self):
        for a, b, cell in itertools.product(range(4), range(4), (0, 7)):
            held = [1, 2, 3, MOST]
            held[b] = 8 * GOAL + cell
            machine = self.done(held, ("poke", a, b), held)
            pages = image()
            pages[GOAL][cell] = held[a]
            self.assertEqual(ways_state(machine), (0, [], pages))

    def test_peek_and_poke_beyond(self):
        for name, spot in itertools.product(("peek", "poke"), (8 * GONE, 8 * GONE + 7, 8 * SIZE, MOST)):
            self.faulted([1, 2, spot, 4], (name, 0, 2), ("beyond", spot, 0))
            self.faulted([1, 2, spot, 4], (name, 2, 2), ("beyond", spot, 0))

    def test_root(self):
        for number, root in itertools.product(range(4), (0, OTHER, GONE, MOST)):
            held = [PLACE, PLACE, PLACE, PLACE]
            held[number] = root
            machine = with_registers(held, [("load", (number + 1) % 4, (number + 1) % 4), ("root", number), HALT])
            machine.turn(1)
            held[(number + 1) % 4] = 53
            self.assertEqual(len(ways_state(machine)[1]), 1)
            pages = ways_state(machine)[2]
            self.steps(machine, (held, 7, True, FIRST, False))
            self.assertEqual(ways_state(machine), (root, [], pages))

    def test_drop(self):
        for place, left in ((80, 0), (87, 0), (PLACE, 0), (79, 1), (88, 1), (512 + PLACE, 1), (MOST, 1)):
            machine = with_registers([0, PLACE, place, 9], [("load", 0, 1), ("drop", 2), HALT])
            machine.turn(1)
            pages = ways_state(machine)[2]
            self.steps(machine, ([53, PLACE, place, 9], 7, True, FIRST, False))
            self.assertEqual(ways_state(machine), (0, [(10, GOAL, 2)] * left, pages))

    def test_give(self):
        for number, page in itertools.product(range(4), (0, OTHER, GOAL)):
            held, behind = [7, 8, 9, 6], [7, 8, 9, 6]
            held[number], behind[number] = page, 1
            machine = self.done(held, ("give", number), behind)
            pages = image()
            pages[page] = None
            self.assertEqual(ways_state(machine), (0, [], pages))
        for page in (GONE, SIZE, 2 ** 40, MOST):
            machine = self.done([7, page, 9, 6], ("give", 1), [7, 0, 9, 6])
            self.assertEqual(ways_state(machine), (0, [], image()))

    def test_want(self):
        for number in range(4):
            for words, told in (([True], 1), ([False], 0), ([], 0)):
                held, behind = [7, 8, 9, 6], [7, 8, 9, 6]
                held[number], behind[number] = GONE, told
                machine = with_registers(held, [("want", number), HALT], words=words)
                self.steps(machine, (behind, 6, True, FIRST, False))
                pages = image()
                pages[GONE] = [0] * 8 if told else None
                self.assertEqual(ways_state(machine), (0, [], pages))

    def test_want_of_what_is_there_or_can_not_be(self):
        for page in (0, OTHER, GOAL, SIZE, 24, 2 ** 40, MOST):
            rows = [("want", 2), ("want", 1), HALT]
            machine = with_registers([7, GONE, page, 6], rows, words=[True])
            self.steps(machine, ([7, GONE, 0, 6], 6, True, FIRST, False))
            self.assertEqual(ways_state(machine), (0, [], image()))
            # The word was not used up.
            self.steps(machine, ([7, 1, 0, 6], 7, True, FIRST, False))

    def test_a_page_given_up_and_wanted(self):
        rows = [("give", 0), ("tell", 0), ("set", 0, GOAL), ("want", 0), ("tell", 0), ("set", 0, GOAL), ("give", 0)]
        rows += [("tell", 0), ("set", 0, GOAL), ("want", 0), ("tell", 0), ("set", 0, GOAL), ("give", 0), ("tell", 0)]
        machine = with_registers([GOAL, 0, 0, 0], rows, words=[True, False, True])
        machine.turn(500)
        self.assertEqual(machine.events(), [("told", 1), ("told", 1), ("told", 1), ("told", 0), ("told", 0)])

    def test_user(self):
        for at in (0, 5, 6):
            machine = with_registers([1, 2, 3, 4], [("user", at), HALT])
            self.steps(machine, ([1, 2, 3, 4], at, False, FIRST, False))
        for at in (7, 60):
            machine = with_registers([1, 2, 3, 4], [("user", at), HALT])
            self.steps(machine, ([1, 2, 3, 4], at, False, FIRST, True))


def causes():
    """For each kind of fault a place, a level, pages, registers, whether in the user's mode, and a row."""
    return (
        ("far", 512, 0, image(), [1, 512, 0, 0], False, ("load", 0, 1)),
        ("far", MOST, 0, image(), [1, MOST, 0, 0], True, ("save", 0, 1)),
        ("absent", PLACE, 1, image(top_marks=0), [1, PLACE, 0, 0], True, ("load", 0, 1)),
        ("absent", PLACE, 2, image(low_marks=0), [1, PLACE, 0, 0], False, ("save", 0, 1)),
        ("beyond", PLACE, 2, image(goal=GONE), [1, PLACE, 0, 0], True, ("load", 0, 1)),
        ("beyond", MOST, 0, image(), [1, MOST, 0, 0], False, ("poke", 0, 1)),
        ("kernel", PLACE, 1, image(top_marks=P | K), [1, PLACE, 0, 0], True, ("load", 0, 1)),
        ("kernel", PLACE, 2, image(low_marks=P | K), [1, PLACE, 0, 0], True, ("save", 0, 1)),
        ("fixed", PLACE, 1, image(top_marks=P), [1, PLACE, 0, 0], True, ("save", 0, 1)),
        ("fixed", PLACE, 2, image(low_marks=P), [1, PLACE, 0, 0], False, ("save", 0, 1)),
        ("deed", 0, 0, image(), [1, 2, 3, 4], True, ("back",)),
        ("call", 0, 0, image(), [1, 2, 3, 4], True, ("call",)),
        ("call", 0, 0, image(), [1, 2, 3, 4], False, ("call",)),
    )


class Saved(Cases):
    def test_each_kind_is_there(self):
        self.assertEqual({cause[0] for cause in causes()}, set(KINDS))

    def test_why_before_any_fault(self):
        for a, b in itertools.product(range(4), range(4)):
            behind = [5, 6, 7, 8]
            behind[a] = behind[b] = 0
            self.done([5, 6, 7, 8], ("why", a, b), behind)

    def test_why_behind_each_kind(self):
        numbers = {"far": 1, "absent": 2, "beyond": 3, "kernel": 4, "fixed": 5, "deed": 6, "call": 7}
        for kind, place, level, pages, held, user, row in causes():
            for a, b in itertools.product(range(4), range(4)):
                machine = with_registers(held, [row, ("why", a, b), HALT], user, 6, pages)
                saved = (numbers[kind], place, 5, not user)
                self.steps(machine, (held, 6, True, saved, False), [("fault", kind, place, level, 5)])
                behind = list(held)
                behind[a] = numbers[kind]
                behind[b] = place
                self.steps(machine, (behind, 7, True, saved, False))

    def test_back(self):
        for kind, place, level, pages, held, user, row in causes():
            machine = with_registers(held, [row, ("back",), HALT], user, 6, pages)
            machine.turn(1)
            core = machine.core()
            self.steps(machine, (held, 5, not user, core[3], False))
            # So the row is done again, and is the same fault again.
            self.steps(machine, core, [("fault", kind, place, level, 5)])

    def test_past(self):
        for kind, place, level, pages, held, user, row in causes():
            machine = with_registers(held, [row, HALT, ("past",)], user, 7, pages)
            machine.turn(1)
            saved = machine.core()[3]
            self.steps(machine, (held, 6, not user, saved, False))
            self.steps(machine, (held, 6, not user, saved, True))

    def test_back_and_past_before_any_fault(self):
        self.done([1, 2, 3, 4], ("back",), [1, 2, 3, 4], True, 0)
        self.done([1, 2, 3, 4], ("past",), [1, 2, 3, 4], True, 1)
        machine = made([("past",)])
        self.steps(machine, ([0] * 4, 1, True, FIRST, True))

    def test_past_the_last_row(self):
        machine = made([("jump", 2), ("past",), ("call",)], 1)
        self.assertEqual(machine.turn(500), 3)
        self.assertEqual(machine.core(), ([0] * 4, 3, True, (7, 0, 2, True), True))
        machine = made([("user", 59), ("past",)] + [HALT] * 57 + [("call",)], 1)
        self.assertEqual(machine.turn(500), 3)
        self.assertEqual(machine.core(), ([0] * 4, 60, False, (7, 0, 59, False), True))

    def test_back_stays_behind_what_was_saved(self):
        machine = with_registers([1, 2, 3, 4], [("call",), ("back",), HALT], False, 6)
        machine.turn(1)
        saved = (7, 0, 5, True)
        for again in range(3):
            self.steps(machine, ([1, 2, 3, 4], 5, True, saved, False))
            self.steps(machine, ([1, 2, 3, 4], 6, True, saved, False), [("fault", "call", 0, 0, 5)])

    def test_back_and_past_from_the_users_mode(self):
        for row in (("back",), ("past",)):
            machine = made([("call",), ("user", 2), row, HALT], 1)
            self.steps(machine, ([0] * 4, 1, True, (7, 0, 0, True), False), [("fault", "call", 0, 0, 0)])
            self.steps(machine, ([0] * 4, 2, False, (7, 0, 0, True), False))
            self.steps(machine, ([0] * 4, 1, True, (6, 0, 2, False), False), [("fault", "deed", 0, 0, 2)])

    def test_the_modes_there_and_back(self):
        # The user's rows call the kernel, which goes past the call: the user's mode again.
        machine = made([("user", 3), ("tell", 0), ("past",), ("call",), ("set", 0, 5), ("call",), HALT], 1)
        self.assertEqual(machine.turn(500), 9)
        self.assertEqual(machine.core(), ([5, 0, 0, 0], 6, False, (7, 0, 5, False), True))
        faults = [("fault", "call", 0, 0, 3), ("told", 0), ("fault", "call", 0, 0, 5), ("told", 5)]
        self.assertEqual(machine.events(), faults)


class Faults(Cases):
    def test_at_each_row(self):
        for number in range(59):
            rows = [("jump", number)] * number + [("call",)] + [HALT] * (59 - number)
            machine = made(rows, 59)
            machine.turn(2 if number > 0 else 1)
            self.assertEqual(machine.core(), ([0] * 4, 59, True, (7, 0, number, True), False))
            self.assertEqual(machine.events(), [("fault", "call", 0, 0, number)])

    def test_the_entry_at_a_row(self):
        for entry in range(4):
            machine = made([("call",), ("tell", 0), ("tell", 1), HALT], entry)
            self.steps(machine, ([0] * 4, entry, True, (7, 0, 0, True), False), [("fault", "call", 0, 0, 0)])

    def test_the_entry_behind_the_last_row(self):
        for many, entry in ((1, 1), (1, 2), (1, 60), (4, 4), (4, 60), (59, 59), (59, 60), (60, 60)):
            machine = made([("call",)] + [HALT] * (many - 1), entry)
            self.assertEqual(machine.turn(500), 1)
            self.assertEqual(machine.core(), ([0] * 4, entry, True, (7, 0, 0, True), True))
            self.assertEqual(machine.events(), [("fault", "call", 0, 0, 0)])
            self.assertEqual(machine.turn(500), 0)

    def test_the_kernels_own_one_behind_the_other(self):
        machine = made([("user", 1), ("back",), ("load", 0, 3), ("call",)], 2)
        self.steps(machine, ([0] * 4, 1, False, FIRST, False))
        self.steps(machine, ([0] * 4, 2, True, (6, 0, 1, False), False), [("fault", "deed", 0, 0, 1)])
        for again in range(3):
            core = ([0] * 4, 2, True, (2, 0, 2, True), False)
            self.steps(machine, core, [("fault", "absent", 0, 1, 2)])

    def test_the_later_one_is_saved_in_the_place_of_the_one_before(self):
        machine = made([("set", 1, 9), ("user", 2), ("call",), ("peek", 0, 1), ("jump", 3)], 3, [[0] * 8, None])
        machine.turn(3)
        self.assertEqual(machine.core()[3], (7, 0, 2, False))
        self.steps(machine, ([0, 9, 0, 0], 3, True, (3, 9, 3, True), False), [("fault", "beyond", 9, 0, 3)])

    def test_a_row_that_is_a_fault_at_itself_as_the_entry(self):
        machine = made([("call",)], 0)
        self.assertEqual(machine.turn(500), 500)
        self.assertEqual(machine.events(), [("fault", "call", 0, 0, 0)] * 500)
        self.assertEqual(machine.core(), ([0] * 4, 0, True, (7, 0, 0, True), False))


class Turns(Cases):
    def test_0_1_and_500_steps(self):
        machine = made([("tell", 0), ("jump", 0)])
        at_first = machine.told()
        self.assertEqual(machine.turn(0), 0)
        self.assertEqual((machine.told(), machine.events()), (at_first, []))
        self.assertEqual(machine.turn(1), 1)
        self.assertEqual((machine.core()[1], machine.events()), (1, [("told", 0)]))
        self.assertEqual(machine.turn(500), 500)
        self.assertEqual((machine.core()[1], len(machine.events())), (1, 251))
        self.assertEqual(machine.turn(499), 499)
        self.assertEqual(machine.core()[1], 0)
        self.assertIs(type(machine.turn(7)), int)

    def test_refused(self):
        for rows in ([("tell", 0), ("jump", 0)], [HALT]):
            machine = made(rows)
            machine.turn(3)
            ahead = (machine.told(), machine.events())
            for steps in NO_WHOLES + (-1, -500, 501, 502, 1000, TOP, LONG, -LONG):
                with self.assertRaises(HouseError) as caught:
                    machine.turn(steps)
                self.assertIs(type(caught.exception), NoBound)
                self.assertEqual((machine.told(), machine.events()), ahead)

    def test_how_many_steps(self):
        rows = [("tell", 0)] * 7 + [HALT]
        for steps in range(12):
            self.assertEqual(made(rows).turn(steps), min(steps, 8))
            self.assertEqual(made(rows[:7]).turn(steps), min(steps, 7))

    def test_halted_by_halt(self):
        machine = made([("tell", 0), HALT, ("tell", 0)])
        self.assertEqual(machine.turn(500), 2)
        self.halted_stays(machine, ([0] * 4, 1, True, FIRST, True))

    def test_halted_behind_a_step(self):
        for rows in ([("tell", 0)], [("jump", 1)], [("nought", 0, 1)], [("user", 1)], [("past",)], [("call",)]):
            machine = made(rows, 1)
            self.assertEqual(machine.turn(500), 1)
            core = machine.core()
            self.assertEqual((core[1], core[4]), (1, True))
            self.halted_stays(machine, core)

    def test_halted_at_its_making(self):
        # As a machine told it that halted so.
        ahead = made([("jump", 60)])
        ahead.turn(1)
        machine = Machine(Plain(image(), 3, []), [("jump", 60)], 0, ahead.core(), ahead.events())
        self.halted_stays(machine, ([0] * 4, 60, True, FIRST, True))

    def test_a_counter_that_is_no_rows_number_at_its_making(self):
        for counter in (1, 2, 60):
            core = ([1, 2, 3, 4], counter, False, FIRST, False)
            machine = Machine(Plain(image(), 3, []), [("tell", 0)], 0, core, [])
            self.halted_stays(machine, core[:4] + (True,))

    def halted_stays(self, machine, core):
        self.assertEqual(machine.core(), core)
        ahead = (machine.told(), machine.events())
        for steps in (0, 1, 500):
            self.assertEqual(machine.turn(steps), 0)
            self.assertEqual((machine.told(), machine.events()), ahead)

    def test_not_halted_ahead_of_the_step(self):
        machine = made([("jump", 1), HALT])
        machine.turn(1)
        self.assertIs(machine.core()[4], False)
        machine.turn(1)
        self.assertIs(machine.core()[4], True)


class Told(unittest.TestCase):
    ROWS = [("set", 1, PLACE), ("load", 0, 1), ("tell", 0), ("set", 1, 600), ("load", 2, 1), HALT]

    def test_kinds(self):
        machine = made(self.ROWS, 5)
        for steps in range(7):
            core = machine.core()
            self.assertIs(type(core), tuple)
            self.assertEqual([type(part) for part in core], [list, int, bool, tuple, bool])
            self.assertEqual([type(word) for word in core[0]], [int] * 4)
            self.assertEqual([type(part) for part in core[3]], [int, int, int, bool])
            told = machine.told()
            self.assertEqual([type(part) for part in told], [tuple, int, list, list])
            self.assertEqual(told[0], core)
            self.assertIs(type(machine.events()), list)
            self.assertEqual([type(event) for event in machine.events()], [tuple] * len(machine.events()))
            self.assertIs(type(machine.program()), list)
            self.assertEqual([type(row) for row in machine.program()], [tuple] * 6)
            self.assertIs(type(machine.entry()), int)
            machine.turn(1)

    def test_all_of_it(self):
        machine = made(self.ROWS, 5)
        self.assertEqual(machine.turn(500), 6)
        pages = image(P | W | T, P | W | T)
        core = ([53, 600, 0, 0], 5, True, (1, 600, 4, True), True)
        self.assertEqual(machine.told(), (core, 0, [(10, GOAL, 2)], pages))
        self.assertEqual(machine.events(), [("told", 53), ("fault", "far", 600, 0, 4)])

    def test_the_shelf_the_oldest_first(self):
        pages = image()
        pages[LOW] = [row_of(GOAL, P)] * 8
        rows = [("set", 0, 64), ("load", 1, 0), ("set", 0, 120), ("load", 1, 0), ("set", 0, 80), ("load", 1, 0)]
        machine = made(rows, 0, pages)
        machine.turn(500)
        self.assertEqual(machine.told()[2], [(8, GOAL, 0), (15, GOAL, 0), (10, GOAL, 0)])

    def test_lists_told_and_changed(self):
        machine = made(self.ROWS, 5)
        machine.turn(3)
        ahead = (machine.told(), machine.events(), machine.program())
        for again in range(2):
            machine.core()[0][0] = 99
            machine.core()[0].clear()
            machine.events().clear()
            machine.program()[3] = HALT
            machine.program().clear()
            told = machine.told()
            told[0][0].append(1)
            told[2].clear()
            told[3][ROOT][1] = 0
            told[3].pop()
            self.assertEqual((machine.told(), machine.events(), machine.program()), ahead)
        self.assertEqual(machine.turn(500), 3)
        self.assertEqual(machine.events(), [("told", 53), ("fault", "far", 600, 0, 4)])

    def test_lists_told_stay(self):
        machine = made(self.ROWS, 5)
        machine.turn(2)
        core, events, told, program = machine.core(), machine.events(), machine.told(), machine.program()
        machine.turn(500)
        self.assertEqual(core, ([53, PLACE, 0, 0], 2, True, FIRST, False))
        self.assertEqual(events, [])
        self.assertEqual(told, (core, 0, [(10, GOAL, 2)], image(P | W | T, P | W | T)))
        self.assertEqual(program, self.ROWS)

    def test_what_is_handed_in_and_changed(self):
        pages, program, words = image(), [("set", 0, GONE), ("want", 0), ("tell", 0)], [True]
        machine = bare(pages, 3, program, 0, words)
        pages[ROOT][1] = 77
        pages.pop()
        program[0] = HALT
        program.append(HALT)
        words[0] = False
        self.assertEqual(machine.told()[3], image())
        self.assertEqual(machine.turn(500), 3)
        self.assertEqual(machine.events(), [("told", 1)])
        self.assertEqual(machine.program(), [("set", 0, GONE), ("want", 0), ("tell", 0)])

    def test_what_is_handed_in_stays(self):
        pages, program, words = image(), list(self.ROWS), [True, False]
        machine = bare(pages, 3, program, 0, words)
        machine.turn(500)
        self.assertEqual((pages, program, words), (image(), self.ROWS, [True, False]))


class GoingOn(unittest.TestCase):
    def going_on(self, program, entry, pages, words, done, steps):
        """A machine made of the core and events behind so many steps, over a way with what the way had."""
        way = Plain(pages, 3, words)
        first = Machine(way, program, entry)
        done = first.turn(done)
        core, events = first.core(), first.events()
        other = Machine(way, program, entry, core, events)
        self.assertEqual((other.told(), other.events()), (first.told(), first.events()))
        whole = bare(pages, 3, program, entry, words)
        self.assertEqual(done + other.turn(steps), whole.turn(done) + whole.turn(steps))
        self.assertEqual((other.told(), other.events()), (whole.told(), whole.events()))
        self.assertEqual((other.program(), other.entry()), (program, entry))
        # The first one's own core and events stay, and the lists handed in do.
        self.assertEqual((first.core(), first.events()), (core, events))

    def test_behind_each_step(self):
        program = [("user", 4), ("why", 2, 3), ("tell", 2), ("past",), ("set", 1, PLACE), ("load", 0, 1), ("tell", 0)]
        program += [("call",), ("set", 1, 700), ("save", 0, 1), ("root", 0), HALT]
        for done in range(26):
            self.going_on(program, 1, image(), [], done, 25)

    def test_the_lists_handed_in_and_changed(self):
        program = [("set", 0, 5), ("tell", 0), ("tell", 0)]
        first = made(program)
        first.turn(2)
        core, events = first.core(), first.events()
        other = Machine(Plain(image(), 3, []), program, 0, core, events)
        core[0][0] = 6
        events.append(("told", 7))
        self.assertEqual(other.core(), ([5, 0, 0, 0], 2, True, FIRST, False))
        self.assertEqual(other.events(), [("told", 5)])
        other.turn(1)
        self.assertEqual(other.events(), [("told", 5), ("told", 5)])
        self.assertEqual(events, [("told", 5), ("told", 7)])
        self.assertEqual(core, ([6, 0, 0, 0], 2, True, FIRST, False))

    def test_of_no_events(self):
        first = made([("set", 0, 5), ("tell", 0)])
        first.turn(1)
        other = Machine(Plain(image(), 3, []), first.program(), 0, first.core(), first.events())
        other.turn(1)
        self.assertEqual(other.events(), [("told", 5)])


class Refusals(unittest.TestCase):
    def refused(self, asked, *things):
        with self.assertRaises(HouseError) as caught:
            asked(*things)
        return caught.exception

    def test_no_program(self):
        for program, entry, place in NO_PROGRAMS:
            way = Plain(image(), 3, [True])
            way.load(PLACE, True)
            ahead = (way.root(), way.shelf(), way.pages())
            core = ([0] * 4, 0, True, FIRST, False)
            for more in ((), (None, None), (core, [])):
                refusal = self.refused(Machine, way, program, entry, *more)
                self.assertIs(type(refusal), NoProgram)
                self.assertEqual(refusal.place, place)
            self.assertEqual((way.root(), way.shelf(), way.pages()), ahead)

    def test_bare(self):
        for program, entry, place in NO_PROGRAMS:
            refusal = self.refused(bare, image(), 3, program, entry, [])
            self.assertIs(type(refusal), NoProgram)
            self.assertEqual(refusal.place, place)
        for pages in NO_IMAGES:
            self.assertIs(type(self.refused(bare, pages, 3, [HALT], 0, [])), NoImage)
        for most in NO_SHELVES:
            self.assertIs(type(self.refused(bare, image(), most, [HALT], 0, [])), NoShelf)

    def test_bare_with_several_wrong(self):
        for pages, most in itertools.product(NO_IMAGES, NO_SHELVES):
            self.assertIs(type(self.refused(bare, pages, most, [HALT], 0, [])), NoImage)
            self.assertIs(type(self.refused(bare, pages, most, [None], 0, [])), NoImage)
        for program, entry, place in NO_PROGRAMS:
            for pages in NO_IMAGES:
                self.assertIs(type(self.refused(bare, pages, 3, program, entry, [])), NoImage)
            for most in NO_SHELVES:
                self.assertIs(type(self.refused(bare, image(), most, program, entry, [])), NoShelf)

    def test_what_is_handed_in_stays(self):
        pages, program = image(), [HALT, None]
        self.refused(bare, pages, 3, program, 0, [])
        self.assertEqual((pages, program), (image(), [HALT, None]))


class Model:
    """A machine told once more, after points 15 to 17, over a way."""

    def __init__(self, way, program, entry):
        self.way, self.program, self.entry = way, program, entry
        self.held, self.counter, self.kernel, self.saved, self.halted = [0] * 4, 0, True, FIRST, False
        self.events = []

    def told(self):
        core = (self.held, self.counter, self.kernel, self.saved, self.halted)
        return ((core, self.way.root(), self.way.shelf(), self.way.pages()), self.events)

    def step(self):
        if self.halted:
            return
        row = self.program[self.counter] + (None, None)
        try:
            self.counter = self.row(row[0], row[1], row[2])
        except Fault as fault:
            number = ("", "far", "absent", "beyond", "kernel", "fixed", "deed", "call").index(fault.kind)
            self.events.append(("fault", fault.kind, fault.place, fault.level, self.counter))
            self.saved = (number, fault.place, self.counter, self.kernel)
            self.kernel, self.counter = True, self.entry
        self.halted = self.halted or self.counter >= len(self.program)

    def row(self, word, a, b):
        held = self.held
        if word in ("set", "add", "both", "odd"):
            held[a] = b if word == "set" else self.sum_of(word, held[a], held[b])
        elif word == "load":
            held[a] = self.way.load(held[b], self.kernel)
        elif word == "save":
            self.way.save(held[b], held[a], self.kernel)
        elif word == "jump":
            return a
        elif word == "nought":
            return b if held[a] == 0 else self.counter + 1
        elif word == "tell":
            self.events.append(("told", held[a]))
        elif word == "call":
            raise Fault("call", 0, 0)
        elif word == "halt":
            self.halted = True
            return self.counter
        elif not self.kernel:
            raise Fault("deed", 0, 0)
        else:
            return self.kernels_row(word, a, b)
        return self.counter + 1

    def sum_of(self, word, one, other):
        if word == "add":
            return (one + other) % TOP
        return one & other if word == "both" else (one | other) - (one & other)

    def kernels_row(self, word, a, b):
        held = self.held
        if word == "peek":
            held[a] = self.way.peek(held[b])
        elif word == "poke":
            self.way.poke(held[b], held[a])
        elif word == "root":
            self.way.turn_root(held[a])
        elif word == "drop":
            self.way.drop(held[a])
        elif word in ("give", "want"):
            held[a] = int(self.way.give(held[a]) if word == "give" else self.way.want(held[a]))
        elif word == "why":
            held[a], held[b] = self.saved[0], self.saved[1]
        elif word == "user":
            self.kernel = False
            return a
        else:
            self.kernel = self.saved[3]
            return self.saved[2] + (1 if word == "past" else 0)
        return self.counter + 1


class AgainstTheModel(unittest.TestCase):
    def test_step_by_step(self):
        seen = set()
        for seed in range(250):
            pages, most, program, entry, words = some_guest(random.Random(seed))
            machine, model = bare(pages, most, program, entry, words), Model(Plain(pages, most, words), program, entry)
            for step in range(120):
                if not model.halted:
                    seen.add((program[model.counter][0], model.kernel))
                model.step()
                machine.turn(1)
                self.assertEqual((machine.told(), machine.events()), model.told(), (seed, step))
        # Otherwise the seeds would say less than they seem to.
        self.assertEqual(seen, set(itertools.product(ROW_WORDS, TRUTHS)))

    def test_many_steps_against_as_many_turns_of_one(self):
        for seed in range(250, 330):
            guest = some_guest(random.Random(seed))
            whole, single = bare(*guest), bare(*guest)
            for steps in (0, 1, 37, 500, 2, 500):
                done = sum([single.turn(1) for step in range(steps)])
                self.assertEqual(whole.turn(steps), done)
                self.assertEqual((whole.told(), whole.events()), (single.told(), single.events()))


if __name__ == "__main__":
    unittest.main()
