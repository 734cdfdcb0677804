"""Points 22 and 23, with points 2, 3, 13 and 19 to 21, as far as both kept ways are the same."""

import copy
import random
import unittest

from shadowpages.errors import Fault, HouseError, NoBound, NoFrame, NoImage, NoPage, NoPlace, NoRoom, NoShelf, NoWord
from shadowpages.frames import Frames
from shadowpages.kept import Kept
from shadowpages.machine import Machine, bare
from shadowpages.rows import row_of
from shadowpages.store import Store
from shadowpages.ways import Plain, Ways
from things import LONG, NO_CELLS, NO_WHOLES, NO_WORDS, TOP, no_numbers, some_guest, some_word

NOUGHTS = [0] * 8
P, W, T, S = 1, 2, 8, 16
SIZE = 6
ROOT, LOW, GOAL, OTHER, GONE = 0, 3, 5, 2, 4
PLACE = 83  # outer 1, inner 2, cell 3
THERE = (0, 1, 2, 3, 5)
NO_IMAGES = ([], [NOUGHTS] * 25, [[0] * 7], [[0] * 7 + [TOP]], (NOUGHTS,), None, True, "-", 1, [1], {})
NO_SHELVES = NO_WHOLES + (0, 13, -1, LONG)


def image():
    """PLACE leads to GOAL by tables on ROOT and LOW; GOAL has the words 50 to 57, OTHER 20 to 27; GONE is not there."""
    pages = [list(NOUGHTS) for page in range(SIZE)]
    pages[GONE] = None
    for page in (GOAL, OTHER):
        pages[page] = [page * 10 + cell for cell in range(8)]
    pages[ROOT][1] = row_of(LOW, P | W)
    pages[LOW][2] = row_of(GOAL, P | W)
    return pages


class Sheets(Kept):
    """A kept way with own frames that bear no rows: it notes which pages were shut, each with its frame by then."""

    def __init__(self, frames, pages, most, count=2, refuses=False):
        self.wanted, self.refuses, self.noted, self.sizes = count, refuses, [], []
        Kept.__init__(self, frames, pages, most)

    def own_count(self, size):
        if self.refuses:
            raise NoBound("a pool that is none")
        self.sizes.append(size)
        return self.wanted

    def shut(self, page):
        self.noted.append((page, self.frame(page)))


def made(many=20, count=2, most=3):
    frames = Frames(many)
    return frames, Sheets(frames, image(), most, count)


def guest_state(way):
    return (way.root(), way.shelf(), way.pages())


def leads(way):
    return [way.frame(page) for page in range(way.size())]


def frames_state(frames):
    taken = [frame for frame in range(frames.size()) if frames.has(frame)]
    words = [[frames.read(frame, cell) for cell in range(8)] for frame in taken]
    return (taken, [frames.owners(frame) for frame in taken], words, frames.promised())


def state(frames, way):
    return (guest_state(way), leads(way), way.soiled(), way.said(), way.tables(), list(way.noted), frames_state(frames))


class Cases(unittest.TestCase):
    def refused(self, frames, way, kind, asked, *things):
        """asked is refused with just this class, and changes nothing."""
        ahead = state(frames, way)
        with self.assertRaises(HouseError) as caught:
            asked(*things)
        self.assertIs(type(caught.exception), kind)
        self.assertEqual(state(frames, way), ahead)


class Making(unittest.TestCase):
    def test_what_it_is(self):
        self.assertTrue(issubclass(Kept, Ways))
        self.assertTrue(issubclass(Kept, Store))

    def test_at_first(self):
        frames, way = made()
        self.assertEqual(guest_state(way), (0, [], image()))
        self.assertEqual((way.size(), way.soiled(), way.said(), way.noted), (SIZE, [], [], []))
        self.assertEqual([way.has(page) for page in range(SIZE)], [page != GONE for page in range(SIZE)])
        self.assertEqual(way.sizes, [SIZE])

    def test_own_frames_then_the_part(self):
        frames = Frames(20)
        for other in range(6):
            frames.take()
        for other in (1, 4, 5):
            frames.drop(other)
        way = Sheets(frames, image(), 3)
        self.assertEqual(way.tables(), [1, 4])
        self.assertEqual(leads(way), [5, 6, 7, 8, None, 9])
        self.assertEqual([frames.owners(frame) for frame in range(11)], [1] * 10 + [0])
        self.assertEqual([frames.read(1, cell) for cell in range(8)], NOUGHTS)
        self.assertEqual(frames.promised(), 7)

    def test_without_own_frames(self):
        frames = Frames(5)
        way = Kept(frames, image(), 3)
        self.assertEqual((way.tables(), leads(way), frames.promised()), ([], [0, 1, 2, 3, None, 4], 5))

    def test_just_enough_room(self):
        for count in (0, 1, 4):
            frames = Frames(5 + count)
            self.assertEqual(len(Sheets(frames, image(), 3, count).tables()), count)
            self.assertEqual((frames.promised(), frames.free()), (5 + count, 0))
            self.no_room(Frames(4 + count), count)

    def test_no_room_where_others_were_promised_some(self):
        frames = Frames(20)
        frames.ask(14)
        self.no_room(frames, 2)
        frames.back(1)
        Sheets(frames, image(), 3, 2)
        self.assertEqual(frames.promised(), 20)
        self.no_room(frames, 0)

    def no_room(self, frames, count):
        ahead = frames_state(frames)
        with self.assertRaises(HouseError) as caught:
            Sheets(frames, image(), 3, count)
        self.assertIs(type(caught.exception), NoRoom)
        self.assertEqual(frames_state(frames), ahead)

    def test_no_page_that_is_there(self):
        frames = Frames(1)
        way = Sheets(frames, [None] * 24, 12, 1)
        self.assertEqual((way.tables(), leads(way), frames.promised()), ([0], [None] * 24, 1))

    def kind_refused(self, frames, pages, most, refuses):
        ahead = frames_state(frames)
        with self.assertRaises(HouseError) as caught:
            Sheets(frames, pages, most, 2, refuses)
        self.assertEqual(frames_state(frames), ahead)
        return type(caught.exception)

    def test_refused_in_their_order(self):
        for many in (1, 20):
            for refuses in (False, True):
                for pages in NO_IMAGES:
                    for most in (3, 0, 13, None):
                        self.assertIs(self.kind_refused(Frames(many), pages, most, refuses), NoImage)
                for most in NO_SHELVES:
                    self.assertIs(self.kind_refused(Frames(many), image(), most, refuses), NoShelf)
            self.assertIs(self.kind_refused(Frames(many), image(), 3, True), NoBound)
        self.assertIs(self.kind_refused(Frames(1), image(), 3, False), NoRoom)

    def test_the_pages_handed_in(self):
        pages = image()
        way = Sheets(Frames(20), pages, 3)
        self.assertEqual(pages, image())
        pages[0][1] = 99
        pages.pop()
        self.assertEqual((way.size(), way.pages()), (SIZE, image()))


class AsAStore(Cases):
    def test_has_and_frame(self):
        frames, way = made()
        self.assertEqual(leads(way), [2, 3, 4, 5, None, 6])
        for page in no_numbers(SIZE) + (GONE,):
            self.assertIs(way.has(page), False)
            self.assertIsNone(way.frame(page))

    def test_read(self):
        frames, way = made()
        frames.write(way.frame(GOAL), 7, 77)
        ahead = state(frames, way)
        self.assertEqual([way.read(GOAL, cell) for cell in range(8)], [50, 51, 52, 53, 54, 55, 56, 77])
        self.assertEqual([way.read(OTHER, cell) for cell in range(8)], image()[OTHER])
        self.assertEqual(state(frames, way), ahead)

    def test_write(self):
        for page, cell, word in ((0, 0, 1), (0, 1, 0), (2, 7, TOP - 1), (5, 3, 53)):
            frames, way = made()
            self.assertIsNone(way.write(page, cell, word))
            wanted = image()
            wanted[page][cell] = word
            self.assertEqual(guest_state(way), (0, [], wanted))
            self.assertEqual(frames.read(way.frame(page), cell), word)
            self.assertEqual((way.soiled(), way.noted), ([page], []))

    def test_refused(self):
        frames, way = made()
        for page in no_numbers(SIZE) + (GONE,):
            self.refused(frames, way, NoPage, way.read, page, 8)
            self.refused(frames, way, NoPage, way.write, page, 8, TOP)
        for cell in NO_CELLS:
            self.refused(frames, way, NoPlace, way.read, 0, cell)
            self.refused(frames, way, NoPlace, way.write, 0, cell, TOP)
        for word in NO_WORDS:
            self.refused(frames, way, NoWord, way.write, 0, 0, word)


def shared(many=20):
    """A way of which each page's frame has somebody else as an owner, too."""
    frames, way = made(many)
    for page in THERE:
        frames.share(way.frame(page))
    return frames, way


class PutAlone(Cases):
    def alone_behind(self, frames, way, pages, deed, *things):
        """Just these pages got frames of their own by the deed, each shut then; the old frames keep the old words."""
        ahead = {page: way.frame(page) for page in THERE}
        getattr(way, deed)(*things)
        self.assertEqual([page for page in THERE if way.frame(page) != ahead[page]], pages)
        self.assertEqual(sorted(way.noted), [(page, way.frame(page)) for page in pages])
        self.assertEqual(way.soiled(), pages)
        for page in THERE:
            self.assertEqual(frames.owners(ahead[page]), 1 if page in pages else 2)
            self.assertEqual(frames.owners(way.frame(page)), 1 if page in pages else 2)
            self.assertEqual([frames.read(ahead[page], cell) for cell in range(8)], image()[page])

    def test_by_write(self):
        frames, way = shared()
        self.alone_behind(frames, way, [OTHER], "write", OTHER, 3, 77)
        self.assertEqual(way.pages()[OTHER], [20, 21, 22, 77, 24, 25, 26, 27])

    def test_by_write_of_the_word_that_is_there(self):
        frames, way = shared()
        self.alone_behind(frames, way, [OTHER], "write", OTHER, 3, 23)
        self.assertEqual(way.pages(), image())

    def test_by_poke(self):
        frames, way = shared()
        self.alone_behind(frames, way, [GOAL], "poke", 8 * GOAL + 3, 77)
        self.assertEqual(way.read(GOAL, 3), 77)

    def test_by_marks(self):
        frames, way = shared()
        self.alone_behind(frames, way, [ROOT, LOW], "load", PLACE, False)
        self.assertEqual(way.read(LOW, 2), row_of(GOAL, P | W | T))

    def test_by_save(self):
        frames, way = shared()
        self.alone_behind(frames, way, [ROOT, LOW, GOAL], "save", PLACE, 77, False)
        self.assertEqual(way.read(GOAL, 3), 77)

    def test_not_by_marks_that_are_there(self):
        frames, way = shared()
        way.write(ROOT, 1, row_of(LOW, P | W | T))
        way.write(LOW, 2, row_of(GOAL, P | W | T))
        for page in (ROOT, LOW):
            frames.share(way.frame(page))
        way.clean()
        ahead = leads(way)
        way.load(PLACE, False)
        self.assertEqual((leads(way), way.soiled()), (ahead, []))

    def test_not_by_asking(self):
        frames, way = shared()
        ahead = state(frames, way)
        way.read(0, 0), way.peek(0), way.has(0), way.pages(), way.shelf(), way.root(), way.loose(0), way.frame(0)
        self.assertEqual(state(frames, way), ahead)

    def test_not_by_a_load_from_the_shelf(self):
        frames, way = made()
        way.load(PLACE, False)
        for page in THERE:
            frames.share(way.frame(page))
        ahead = state(frames, way)
        self.assertEqual(way.load(PLACE, False), 53)
        self.assertEqual(state(frames, way), ahead)

    def test_once_alone_it_stays(self):
        frames, way = shared()
        way.write(OTHER, 3, 77)
        ahead = (leads(way), frames_state(frames)[:2], list(way.noted))
        way.write(OTHER, 4, 78)
        self.assertEqual((leads(way), frames_state(frames)[:2], way.noted), ahead)

    def test_two_pages_of_one_way(self):
        frames, way = made()
        way.write(OTHER, 3, 77)
        way.write(GOAL, 3, 77)
        for cell in range(8):
            way.write(OTHER, cell, cell)
            way.write(GOAL, cell, cell)
        way.guard(GOAL)
        way.lead(OTHER, way.frame(GOAL))
        self.assertEqual(way.frame(OTHER), way.frame(GOAL))
        way.poke(8 * GOAL, 99)
        self.assertNotEqual(way.frame(OTHER), way.frame(GOAL))
        self.assertEqual((way.read(OTHER, 0), way.read(GOAL, 0)), (0, 99))

    def test_refused_or_a_fault_it_changes_nothing(self):
        frames, way = shared()
        self.refused(frames, way, NoWord, way.write, 0, 0, TOP)
        self.refused(frames, way, NoPlace, way.write, 0, 8, 1)
        self.refused(frames, way, NoWord, way.save, PLACE, TOP, True)
        self.refused(frames, way, Fault, way.save, 512, 1, True)
        self.refused(frames, way, Fault, way.load, 0, True)
        self.refused(frames, way, Fault, way.poke, 8 * GONE, 1)
        self.refused(frames, way, Fault, way.peek, TOP - 1)


class GiveAndWant(Cases):
    def test_give(self):
        for page in THERE:
            frames, way = made()
            frame = way.frame(page)
            self.assertIs(way.give(page), True)
            wanted = image()
            wanted[page] = None
            self.assertEqual(guest_state(way), (0, [], wanted))
            self.assertIs(frames.has(frame), False)
            self.assertEqual((frames.promised(), way.soiled(), way.said()), (6, [page], []))
            self.assertEqual(way.noted, [(page, None)])

    def test_give_of_a_shared_one(self):
        frames, way = shared()
        frame = way.frame(GOAL)
        way.give(GOAL)
        self.assertEqual((frames.owners(frame), frames.promised()), (1, 6))

    def test_give_of_what_is_not_there(self):
        frames, way = made()
        ahead = state(frames, way)
        for page in (GONE, SIZE, 24, 2 ** 40, TOP - 1):
            self.assertIs(way.give(page), False)
        self.assertEqual(state(frames, way), ahead)

    def test_want(self):
        frames, way = made(8)
        self.assertIs(way.want(GONE), True)
        wanted = image()
        wanted[GONE] = NOUGHTS
        self.assertEqual(guest_state(way), (0, [], wanted))
        self.assertEqual((way.frame(GONE), frames.owners(7), frames.promised()), (7, 1, 8))
        self.assertEqual((way.said(), way.soiled(), way.noted), ([True], [GONE], [(GONE, 7)]))

    def test_the_house_says_no(self):
        frames, way = made(7)
        ahead = state(frames, way)
        for many in (1, 2, 3):
            self.assertIs(way.want(GONE), False)
            self.assertEqual(way.said(), [False] * many)
            self.assertEqual(state(frames, way)[:3], ahead[:3])
            self.assertEqual(state(frames, way)[4:], ahead[4:])

    def test_where_the_house_is_not_asked(self):
        frames, way = made()
        ahead = state(frames, way)
        for page in THERE + (SIZE, 24, 2 ** 40, TOP - 1):
            self.assertIs(way.want(page), False)
        self.assertEqual(state(frames, way), ahead)

    def test_all_words_in_their_order(self):
        frames, way = made(7)
        self.assertIs(way.want(GONE), False)
        way.give(GOAL)
        self.assertIs(way.want(GONE), True)
        self.assertIs(way.want(GOAL), False)
        way.give(GONE)
        self.assertIs(way.want(GOAL), True)
        self.assertEqual(way.said(), [False, True, False, True])
        self.assertEqual(way.pages()[GOAL], NOUGHTS)
        self.assertEqual(way.soiled(), [GONE, GOAL])

    def test_rows_on_the_shelf_stay(self):
        frames, way = made()
        way.load(PLACE, False)
        way.give(GOAL)
        self.assertEqual(way.shelf(), [(10, GOAL, 2)])
        way.want(GOAL)
        self.assertEqual(way.load(PLACE, False), 0)

    def test_the_frame_of_somebody_else_given_up_is_room(self):
        frames = Frames(11)
        one, other = Sheets(frames, image(), 3, 1), Sheets(frames, [NOUGHTS, None, None], 3, 1)
        self.assertEqual(frames.promised(), 8)
        self.assertIs(other.want(1), True)
        self.assertIs(other.want(2), True)
        self.assertIs(one.want(GONE), True)
        one.give(GONE)
        other.give(0)
        other.give(1)
        self.assertIs(one.want(GONE), True)
        self.assertEqual((one.said(), other.said(), frames.promised()), ([True, True], [True, True], 9))


class Soiled(Cases):
    def test_rising(self):
        frames, way = made()
        for page in (5, 0, 3):
            way.write(page, 0, way.read(page, 0))
        self.assertEqual(way.soiled(), [0, 3, 5])
        way.give(1)
        way.want(GONE)
        self.assertEqual(way.soiled(), [0, 1, 3, 4, 5])

    def test_clean(self):
        frames, way = made()
        way.save(PLACE, 77, False)
        way.give(OTHER)
        self.assertEqual(way.soiled(), [ROOT, OTHER, LOW, GOAL])
        ahead = state(frames, way)
        self.assertIsNone(way.clean())
        self.assertEqual(way.soiled(), [])
        self.assertEqual(state(frames, way)[:2], ahead[:2])
        self.assertEqual(state(frames, way)[3:], ahead[3:])
        way.save(PLACE, 78, False)
        self.assertEqual(way.soiled(), [GOAL])
        way.want(OTHER)
        self.assertEqual(way.soiled(), [OTHER, GOAL])

    def test_put_alone_led_and_guarded_it_is_not(self):
        frames, way = made()
        way.guard(1)
        way.lead(1, way.frame(1))
        frames.share(way.frame(OTHER))
        way.lead(1, way.frame(OTHER))
        self.assertEqual(way.soiled(), [])
        # Page 1 is put alone by the write to it, OTHER has one owner fewer by that.
        way.write(1, 0, 5)
        self.assertEqual(way.soiled(), [1])

    def test_the_words_of_a_refused_deed_soil_nothing(self):
        frames, way = made()
        for asked in ((way.write, 0, 0, TOP), (way.save, 512, 0, True), (way.poke, 8 * GONE, 0), (way.guard, GONE)):
            self.assertRaises(HouseError, *asked)
        self.assertEqual(way.soiled(), [])


class GuardAndLead(Cases):
    def test_guard(self):
        frames, way = made()
        way.save(PLACE, 77, False)
        for page in THERE:
            ahead = state(frames, way)
            self.assertIsNone(way.guard(page))
            wanted = ahead[:5] + (ahead[5] + [(page, way.frame(page))],) + ahead[6:]
            self.assertEqual(state(frames, way), wanted)

    def test_guard_refused(self):
        frames, way = made()
        for page in no_numbers(SIZE) + (GONE,):
            self.refused(frames, way, NoPage, way.guard, page)

    def test_lead(self):
        frames, way = made()
        way.load(PLACE, False)
        frame = frames.take()
        for cell in range(8):
            frames.write(frame, cell, 50 + cell)
        ahead = guest_state(way)
        old = way.frame(GOAL)
        self.assertIsNone(way.lead(GOAL, frame))
        self.assertEqual((way.frame(GOAL), frames.owners(frame), frames.owners(old)), (frame, 2, 0))
        self.assertEqual((guest_state(way), way.noted), (ahead, [(GOAL, frame)]))

    def test_lead_where_it_led_already(self):
        frames, way = made()
        ahead = state(frames, way)
        way.lead(GOAL, way.frame(GOAL))
        self.assertEqual(way.noted, [(GOAL, way.frame(GOAL))])
        self.assertEqual(state(frames, way)[:5], ahead[:5])
        self.assertEqual(state(frames, way)[6:], ahead[6:])

    def test_lead_refused(self):
        frames, way = made()
        for page in no_numbers(SIZE) + (GONE,):
            for frame in (2, 19, None):
                self.refused(frames, way, NoPage, way.lead, page, frame)
        for frame in NO_WHOLES + (-1, 7, 19, 20, 200, LONG):
            self.refused(frames, way, NoFrame, way.lead, GOAL, frame)

    def test_by_their_arguments_names(self):
        frames, way = made()
        way.guard(page=0)
        way.lead(page=0, frame=way.frame(page=0))
        self.assertIs(way.loose(page=0), False)
        way.resume(root=5, shelf=[], said=[])
        self.assertEqual(way.root(), 5)


class ResumeAndEnd(unittest.TestCase):
    def test_resume(self):
        frames, way = made(30)
        way.want(GONE)
        for number in (13, 10, 7):
            way.write(ROOT, number // 8, row_of(LOW, P | W))
            way.write(LOW, number % 8, row_of(GOAL, P))
            way.load(8 * number, True)
        shelf, said = way.shelf(), way.said()
        other = Sheets(frames, way.pages(), 3)
        other.write(0, 0, 5)
        other.give(OTHER)
        pages = other.pages()
        self.assertIsNone(other.resume(9, shelf, said))
        self.assertEqual((guest_state(other), other.said()), ((9, way.shelf(), pages), [True]))
        self.assertEqual([row[0] for row in other.shelf()], [13, 10, 7])
        shelf.clear()
        said.append(False)
        self.assertEqual((other.shelf(), other.said()), (way.shelf(), [True]))
        other.want(OTHER)
        self.assertEqual((other.said(), said), ([True, True], [True, False]))

    def test_resumed_it_reaches_by_the_shelf(self):
        frames, way = made()
        way.resume(GONE, [(10, GOAL, 2)], [])
        self.assertEqual(way.load(PLACE, False), 53)
        self.assertRaises(Fault, way.load, 0, False)

    def test_end(self):
        frames, way = made()
        frames.take()
        frames.ask(4)
        frames.share(way.frame(GOAL))
        goal = way.frame(GOAL)
        way.give(OTHER)
        way.want(GONE)
        self.assertIsNone(way.end())
        self.assertEqual(frames_state(frames)[:2], ([goal, 7], [1, 1]))
        self.assertEqual(frames.promised(), 4)

    def test_end_of_a_way_whose_pages_share_a_frame(self):
        frames, way = made()
        for cell in range(8):
            way.write(1, cell, 0)
            way.write(ROOT, cell, 0)
        way.guard(1)
        way.lead(ROOT, way.frame(1))
        way.end()
        self.assertEqual((frames.free(), frames.promised()), (20, 0))

    def test_end_beside_another_way(self):
        frames = Frames(20)
        one, other = Sheets(frames, image(), 3), Sheets(frames, image(), 3)
        one.guard(GOAL)
        other.lead(GOAL, one.frame(GOAL))
        one.end()
        self.assertEqual(other.pages(), image())
        self.assertEqual(frames.promised(), 7)
        self.assertEqual([frames.owners(frame) for frame in other.tables() + leads(other)], [1, 1, 1, 1, 1, 1, 0, 1])
        other.end()
        self.assertEqual((frames.free(), frames.promised()), (20, 0))


class Behind(unittest.TestCase):
    """Lists told are new ones."""

    def test_lists_told_and_changed(self):
        frames, way = made()
        way.save(PLACE, 77, False)
        way.want(GONE)
        ahead = copy.deepcopy(state(frames, way))
        for told in (way.soiled(), way.tables(), way.said(), way.shelf(), way.pages()[0], way.pages()):
            told.append(99)
            told.pop(0)
        self.assertEqual(state(frames, way), ahead)

    def test_lists_told_stay(self):
        frames, way = made()
        told = (way.soiled(), way.tables(), way.said(), way.shelf(), way.pages())
        way.save(PLACE, 77, False)
        way.want(GONE)
        way.give(OTHER)
        self.assertEqual(told, ([], [0, 1], [], [], image()))


def some_things(dice, deed):
    """What is handed in for a deed of a guest."""
    kernel, place = dice.random() < 0.5, dice.choice((dice.randrange(24), dice.randrange(520)))
    if deed == "load":
        return (place, kernel)
    if deed == "save":
        return (place, some_word(dice), kernel)
    if deed in ("poke", "peek"):
        return (dice.randrange(52), some_word(dice))[:2 if deed == "poke" else 1]
    if deed in ("give", "want"):
        return (dice.randrange(7),)
    if deed == "turn_root":
        return (dice.choice((0, 0, 1, 2)),)
    return (place,)


def room_of(guest):
    """How many frames a guest's pages and one own frame need."""
    return 1 + len([page for page in guest[0] if page is not None])


def outcome(asked, things):
    """What was told, or the fault as a tuple."""
    try:
        return asked(*things)
    except Fault as fault:
        return (fault.kind, fault.place, fault.level)


class AgainstThePlainWay(unittest.TestCase):
    """Two guests on one machine's frames, their like pages laid together now and then: no guest can tell."""

    DEEDS = ["load", "save"] * 6 + ["poke", "want", "give", "peek", "drop", "turn_root"]

    def sound(self, frames, ways):
        """Each frame has as many owners as pages lead to it, own frames one; the promises are kept."""
        every = [frame for way in ways for frame in leads(way) if frame is not None]
        own = [frame for way in ways for frame in way.tables()]
        self.assertEqual([frames.owners(frame) for frame in own], [1] * len(own))
        self.assertEqual(set(own) & set(every), set())
        for frame in range(frames.size()):
            self.assertEqual(frames.owners(frame), every.count(frame) + own.count(frame))
        self.assertEqual(frames.promised(), len(every) + len(own))

    def lay_together(self, dice, ways):
        one, other = dice.choice(ways), dice.choice(ways)
        for page, words in enumerate(one.pages()):
            if words is not None and words in other.pages():
                like = other.pages().index(words)
                other.guard(like)
                one.lead(page, other.frame(like))

    def deeds_of(self, seed, frames, ways):
        """Each guest's deeds in their order, with what came of them and the state behind."""
        dice = random.Random(seed)
        rows = [[] for way in ways]
        for step in range(160):
            number, deed = dice.randrange(len(ways)), dice.choice(self.DEEDS)
            things = some_things(dice, deed)
            came = outcome(getattr(ways[number], deed), things)
            rows[number].append((deed, things, came, guest_state(ways[number])))
            if dice.random() < 0.3:
                self.lay_together(dice, ways)
            self.sound(frames, ways)
        return rows

    def test_many_deeds(self):
        said = []
        for seed in range(60):
            guests = [some_guest(random.Random(1000 + seed // 2)), some_guest(random.Random(2000 + seed))]
            guests[1] = guests[0] if seed % 2 else guests[1]
            frames = Frames(sum([room_of(guest) for guest in guests]) + seed % 3)
            ways = [Sheets(frames, guest[0], guest[1], 1) for guest in guests]
            rows = self.deeds_of(seed, frames, ways)
            for way, guest, done in zip(ways, guests, rows):
                plain = Plain(guest[0], guest[1], way.said())
                for deed, things, came, behind in done:
                    self.assertEqual(outcome(getattr(plain, deed), things), came)
                    self.assertEqual(guest_state(plain), behind)
                said += way.said()
        # Both words of the house were said.
        self.assertEqual(set(said), {False, True})

    def test_machines(self):
        for seed in range(60):
            pages, most, program, entry, words = some_guest(random.Random(seed))
            frames = Frames(room_of([pages]) + seed % 2)
            way = Sheets(frames, pages, most, 1)
            machine = Machine(way, program, entry)
            steps = [machine.turn(1 + step % 7) for step in range(60)]
            plain = bare(pages, most, program, entry, way.said())
            plain.turn(sum(steps))
            self.assertEqual((machine.told(), machine.events()), (plain.told(), plain.events()))
            self.sound(frames, [way])


if __name__ == "__main__":
    unittest.main()
