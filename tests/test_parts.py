"""Point 21, with points 2, 3, 8 and 19: parts, which lead a guest's pages to frames."""

import random
import unittest

from shadowpages.errors import HouseError, NoFrame, NoImage, NoPage
from shadowpages.frames import Frames
from shadowpages.parts import Parts
from things import LONG, NO_WHOLES, TOP, Prickly, no_numbers

NOUGHTS = [0] * 8
SIZE = 4
GONE = 2
NO_IMAGES = NO_WHOLES + (
    0, 1, LONG, [], [NOUGHTS] * 25, [NOUGHTS, [0] * 7], [[0] * 9], [[0] * 7 + [TOP]], [[0] * 7 + [True]], (NOUGHTS,),
    {0: NOUGHTS}, "-", [1], [tuple(NOUGHTS)], [[None] * 8],
)


def page_words(page):
    return [page * 10 + cell for cell in range(8)]


def image():
    """Pages 0, 1 and 3 are there, GONE is not."""
    return [None if page == GONE else page_words(page) for page in range(SIZE)]


def frames_state(frames):
    taken = [frame for frame in range(frames.size()) if frames.has(frame)]
    words = {frame: [frames.read(frame, cell) for cell in range(8)] for frame in taken}
    return ({frame: frames.owners(frame) for frame in taken}, words, frames.promised())


def state(frames, part):
    return (part.size(), part.told(), part.pages(), frames_state(frames))


def made(many=10, ahead=0):
    """A part over frames of which the first ones were taken ahead, each for somebody else."""
    frames = Frames(many)
    for other in range(ahead):
        frames.take()
    return frames, Parts(frames, image())


class Cases(unittest.TestCase):
    def refused(self, frames, part, kind, asked, *things):
        """asked is refused with just this class, and changes nothing."""
        ahead = state(frames, part)
        with self.assertRaises(HouseError) as caught:
            asked(*things)
        self.assertIs(type(caught.exception), kind)
        self.assertEqual(state(frames, part), ahead)

    def owned(self, frames, wanted):
        """Just these frames are taken, with so many owners."""
        self.assertEqual(frames_state(frames)[0], wanted)


class Making(Cases):
    def test_by_rising_numbers(self):
        frames, part = made()
        self.assertEqual(part.told(), [0, 1, None, 2])
        self.assertEqual(part.pages(), image())
        self.assertEqual(part.size(), SIZE)
        self.assertEqual(frames_state(frames)[1], {0: page_words(0), 1: page_words(1), 2: page_words(3)})
        self.owned(frames, {0: 1, 1: 1, 2: 1})
        self.assertEqual(frames.promised(), 0)

    def test_over_frames_of_which_some_are_taken(self):
        frames = Frames(9)
        for other in range(6):
            frames.take()
        for other in (1, 4):
            frames.drop(other)
        part = Parts(frames, image())
        self.assertEqual(part.told(), [1, 4, None, 6])
        self.assertEqual(part.pages(), image())
        self.owned(frames, {0: 1, 1: 1, 2: 1, 3: 1, 4: 1, 5: 1, 6: 1})

    def test_of_just_enough_frames(self):
        frames, part = made(3)
        self.assertEqual((part.told(), frames.free()), ([0, 1, None, 2], 0))

    def test_of_1_to_24_pages(self):
        for size in range(1, 25):
            pages = [None if page % 3 == 1 else page_words(page) for page in range(size)]
            frames = Frames(24)
            part = Parts(frames, pages)
            self.assertEqual((part.size(), part.pages()), (size, pages))
            there = [page for page in range(size) if page % 3 != 1]
            self.assertEqual([part.frame(page) for page in there], list(range(len(there))))

    def test_of_no_page_that_is_there(self):
        frames = Frames(1)
        part = Parts(frames, [None] * 24)
        self.assertEqual((part.size(), part.told(), part.pages(), frames.free()), (24, [None] * 24, [None] * 24, 1))

    def test_like_pages_have_two_frames(self):
        frames = Frames(5)
        words = [1, 2, 3, 4, 5, 6, 7, TOP - 1]
        part = Parts(frames, [words, words, list(words)])
        self.assertEqual(part.told(), [0, 1, 2])
        frames.write(0, 0, 9)
        self.assertEqual(part.pages(), [[9] + words[1:], words, words])

    def test_by_its_arguments_names(self):
        frames = Frames(5)
        self.assertEqual(Parts(frames=frames, pages=image()).told(), [0, 1, None, 2])

    def test_refused(self):
        for pages in NO_IMAGES:
            frames = Frames(9)
            frames.take()
            ahead = frames_state(frames)
            with self.assertRaises(HouseError) as caught:
                Parts(frames, pages)
            self.assertIs(type(caught.exception), NoImage)
            self.assertEqual(frames_state(frames), ahead)

    def test_refused_for_a_wrong_page_behind_good_ones(self):
        frames = Frames(30)
        for wrong in (0, [], [0] * 7, [0] * 7 + [-1], "-", True, Prickly()):
            with self.assertRaises(NoImage):
                Parts(frames, [NOUGHTS] * 23 + [wrong])
            self.assertEqual(frames.free(), 30)


class Asking(Cases):
    def test_frame(self):
        frames, part = made(9, 3)
        self.assertEqual([part.frame(page) for page in range(SIZE)], [3, 4, None, 5])
        for thing in no_numbers(SIZE) + (GONE,):
            self.assertIsNone(part.frame(thing))

    def test_kinds(self):
        frames, part = made()
        frames.share(0)
        for told in (part.size(), part.frame(0)):
            self.assertIs(type(told), int)
        for told in (part.alone(0), part.alone(0)):
            self.assertIs(type(told), bool)
        for told in (part.lead(0, 1), part.give(0), part.fresh(0)):
            self.assertIsNone(told)
        self.assertEqual([type(frame) for frame in part.told()], [int, int, type(None), int])
        self.assertEqual([type(page) for page in part.pages()], [list, list, type(None), list])

    def test_the_words_are_those_of_the_frames(self):
        frames, part = made()
        frames.write(2, 7, 77)
        self.assertEqual(part.pages()[3], [30, 31, 32, 33, 34, 35, 36, 77])

    def test_asking_changes_nothing(self):
        frames, part = made()
        ahead = state(frames, part)
        part.frame(0), part.frame(GONE), part.frame(None), part.size(), part.told(), part.pages()
        self.assertEqual(state(frames, part), ahead)


class Alone(Cases):
    def test_with_one_owner(self):
        frames, part = made()
        ahead = state(frames, part)
        for page in (0, 1, 3):
            self.assertIs(part.alone(page), False)
        self.assertEqual(state(frames, part), ahead)

    def test_with_one_owner_where_none_is_free(self):
        frames, part = made(3)
        self.assertIs(part.alone(3), False)

    def test_with_more_owners(self):
        for owners in (2, 3, 5):
            for page, frame in ((0, 0), (1, 1), (3, 2)):
                frames, part = made()
                for other in range(owners - 1):
                    frames.share(frame)
                self.assertIs(part.alone(page), True)
                wanted = {0: 1, 1: 1, 2: 1, 3: 1}
                wanted[frame] = owners - 1
                self.owned(frames, wanted)
                self.assertEqual(part.frame(page), 3)
                self.assertEqual(part.pages(), image())
                self.assertEqual(frames_state(frames)[1][frame], page_words(page))
                self.assertIs(part.alone(page), False)

    def test_the_least_free_frame(self):
        frames, part = made(9, 3)
        frames.drop(1)
        frames.share(4)
        self.assertIs(part.alone(1), True)
        self.assertEqual(part.told(), [3, 1, None, 5])

    def test_two_pages_of_one_part(self):
        frames, part = made()
        part.lead(1, 0)
        self.assertEqual(part.told(), [0, 0, None, 2])
        self.assertIs(part.alone(0), True)
        self.assertEqual(part.told(), [1, 0, None, 2])
        self.assertIs(part.alone(1), False)
        self.owned(frames, {0: 1, 1: 1, 2: 1})
        self.assertEqual(part.pages(), [page_words(0), page_words(0), None, page_words(3)])

    def test_a_write_to_one_does_not_reach_the_other(self):
        frames, part = made()
        part.lead(1, 0)
        part.alone(1)
        frames.write(part.frame(1), 0, 77)
        self.assertEqual(part.pages()[:2], [page_words(0), [77] + page_words(0)[1:]])

    def test_refused(self):
        frames, part = made()
        frames.share(0)
        for page in no_numbers(SIZE) + (GONE,):
            self.refused(frames, part, NoPage, part.alone, page)

    def test_none_is_free(self):
        frames, part = made(3)
        frames.share(1)
        self.refused(frames, part, NoFrame, part.alone, 1)
        for page in no_numbers(SIZE) + (GONE,):
            self.refused(frames, part, NoPage, part.alone, page)
        self.assertIs(part.alone(0), False)


class Lead(Cases):
    def test_to_another_frame(self):
        frames, part = made(9, 2)
        part.lead(0, 1)
        self.assertEqual(part.told(), [1, 3, None, 4])
        self.owned(frames, {0: 1, 1: 2, 3: 1, 4: 1})
        self.assertEqual(part.pages(), [NOUGHTS, page_words(1), None, page_words(3)])
        part.lead(0, 4)
        self.assertEqual(part.told(), [4, 3, None, 4])
        self.owned(frames, {0: 1, 1: 1, 3: 1, 4: 2})
        self.assertEqual(part.pages(), [page_words(3), page_words(1), None, page_words(3)])

    def test_away_from_a_shared_frame(self):
        frames, part = made()
        frames.share(0)
        part.lead(0, 1)
        self.owned(frames, {0: 1, 1: 2, 2: 1})
        self.assertEqual(frames_state(frames)[1][0], page_words(0))

    def test_to_its_own(self):
        frames, part = made()
        frames.share(1)
        ahead = state(frames, part)
        for page, frame in ((0, 0), (1, 1), (3, 2)):
            self.assertIsNone(part.lead(page, frame))
            self.assertEqual(state(frames, part), ahead)

    def test_no_frame_is_needed(self):
        frames, part = made(3)
        part.lead(0, 2)
        self.assertEqual(part.told(), [2, 1, None, 2])
        self.owned(frames, {1: 1, 2: 2})

    def test_refused_for_the_page(self):
        frames, part = made(6)
        for page in no_numbers(SIZE) + (GONE,):
            for frame in (0, 1, 5, 6, None, True, Prickly()):
                self.refused(frames, part, NoPage, part.lead, page, frame)

    def test_refused_for_the_frame(self):
        frames, part = made(6)
        for frame in no_numbers(6) + (3, 4, 5, 200):
            for page in (0, 1, 3):
                self.refused(frames, part, NoFrame, part.lead, page, frame)

    def test_a_frame_that_is_free_again(self):
        frames, part = made(9, 2)
        frames.drop(0)
        self.refused(frames, part, NoFrame, part.lead, 0, 0)
        part.lead(0, 1)
        # The page's frame ahead of that has no owner left.
        self.refused(frames, part, NoFrame, part.lead, 0, 2)

    def test_by_its_arguments_names(self):
        frames, part = made()
        part.lead(page=0, frame=1)
        self.assertEqual(part.frame(page=0), 1)
        self.assertIs(part.alone(page=0), True)
        part.give(page=0)
        part.fresh(page=0)
        self.assertEqual(part.told(), [0, 1, None, 2])


class GiveAndFresh(Cases):
    def test_give(self):
        for page, frame in ((0, 0), (1, 1), (3, 2)):
            frames, part = made()
            self.assertIsNone(part.give(page))
            wanted = image()
            wanted[page] = None
            self.assertEqual(part.pages(), wanted)
            self.assertIsNone(part.frame(page))
            self.assertEqual(part.size(), SIZE)
            self.assertIs(frames.has(frame), False)
            self.assertEqual(frames.free(), 8)
            self.refused(frames, part, NoPage, part.give, page)
            self.refused(frames, part, NoPage, part.alone, page)
            self.refused(frames, part, NoPage, part.lead, page, part.told()[(page + 1) % 2])

    def test_give_of_a_shared_one(self):
        frames, part = made()
        frames.share(0)
        part.give(0)
        self.owned(frames, {0: 1, 1: 1, 2: 1})
        self.assertEqual(frames_state(frames)[1][0], page_words(0))
        part.lead(1, 0)
        part.give(1)
        self.owned(frames, {0: 1, 2: 1})

    def test_give_refused(self):
        frames, part = made()
        for page in no_numbers(SIZE) + (GONE,):
            self.refused(frames, part, NoPage, part.give, page)

    def test_fresh(self):
        frames, part = made()
        self.assertIsNone(part.fresh(GONE))
        self.assertEqual(part.told(), [0, 1, 3, 2])
        self.assertEqual(part.pages(), [page_words(0), page_words(1), NOUGHTS, page_words(3)])
        self.owned(frames, {0: 1, 1: 1, 2: 1, 3: 1})

    def test_fresh_of_noughts_on_a_frame_that_bore_words(self):
        frames, part = made()
        part.give(1)
        part.fresh(1)
        self.assertEqual(part.told(), [0, 1, None, 2])
        self.assertEqual(part.pages()[1], NOUGHTS)
        part.give(0)
        part.fresh(GONE)
        self.assertEqual(part.told(), [None, 1, 0, 2])
        self.assertEqual(part.pages()[GONE], NOUGHTS)

    def test_fresh_refused(self):
        frames, part = made()
        for page in no_numbers(SIZE) + (0, 1, 3):
            self.refused(frames, part, NoPage, part.fresh, page)

    def test_fresh_where_none_is_free(self):
        frames, part = made(3)
        self.refused(frames, part, NoFrame, part.fresh, GONE)
        for page in no_numbers(SIZE) + (0, 1, 3):
            self.refused(frames, part, NoPage, part.fresh, page)
        part.give(0)
        part.fresh(GONE)
        self.refused(frames, part, NoFrame, part.fresh, 0)

    def test_nothing_is_promised_for_them(self):
        frames, part = made()
        frames.ask(2)
        part.give(0)
        part.fresh(0)
        part.lead(0, 1)
        part.alone(0)
        self.assertEqual(frames.promised(), 2)


class Behind(Cases):
    """What is done behind a call to what was handed in or told."""

    def test_the_pages_handed_in(self):
        pages = image()
        frames = Frames(9)
        part = Parts(frames, pages)
        self.assertEqual(pages, image())
        pages[0][0] = 99
        pages[1].clear()
        pages.pop()
        self.assertEqual((part.size(), part.pages()), (SIZE, image()))
        frames.write(0, 1, 55)
        self.assertEqual(pages[0][1], 1)

    def test_the_lists_told(self):
        frames, part = made()
        told, pages = part.told(), part.pages()
        told[0] = 2
        told.pop()
        pages[0][0] = 99
        pages[1] = None
        pages.pop()
        self.assertEqual((part.told(), part.pages()), ([0, 1, None, 2], image()))

    def test_the_lists_told_stay(self):
        frames, part = made()
        told, pages = part.told(), part.pages()
        frames.write(0, 0, 99)
        part.lead(1, 0)
        part.give(3)
        part.fresh(GONE)
        self.assertEqual((told, pages), ([0, 1, None, 2], image()))

    def test_two_parts_over_the_same_frames(self):
        frames = Frames(9)
        one, other = Parts(frames, image()), Parts(frames, image())
        self.assertEqual((one.told(), other.told()), ([0, 1, None, 2], [3, 4, None, 5]))
        one.lead(0, 3)
        self.owned(frames, {1: 1, 2: 1, 3: 2, 4: 1, 5: 1})
        self.assertIs(other.alone(0), True)
        self.assertEqual((one.told(), other.told()), ([3, 1, None, 2], [0, 4, None, 5]))
        one.give(1)
        other.give(1)
        self.owned(frames, {0: 1, 2: 1, 3: 1, 5: 1})
        self.assertEqual(one.pages(), other.pages())


class AgainstPlainLists(Cases):
    """Many deeds of two parts over the same frames, against the pages' words and frames kept in lists."""

    def done(self, frames, part, goals, deed, page, frame):
        """One deed, and what it is by the goals (each part's list of frames); told is what became of it."""
        every = [goal for other in goals for goal in other if goal is not None]
        least = min(set(range(frames.size())) - set(every), default=None)
        mine = goals[part]
        there = mine[page] is not None
        if deed == "fresh":
            if there:
                return NoPage
            mine[page] = least
            return NoFrame if least is None else None
        if not there:
            return NoPage
        if deed == "give":
            mine[page] = None
        elif deed == "lead":
            if frame not in every:
                return NoFrame
            mine[page] = frame
        else:
            if every.count(mine[page]) == 1:
                return False
            if least is None:
                return NoFrame
            mine[page] = least
            return True
        return None

    def outcome(self, asked, *things):
        try:
            return asked(*things)
        except HouseError as refusal:
            return type(refusal)

    def words_behind(self, deed, page, frame, ahead, goals, words):
        """The words of the frames behind a deed."""
        behind = dict(words)
        if deed == "fresh":
            behind[goals[page]] = NOUGHTS
        elif deed == "alone":
            behind[goals[page]] = words[ahead[page]]
        return behind

    def test_many_deeds(self):
        for seed in range(80):
            dice = random.Random(seed)
            frames = Frames(dice.choice((6, 7, 9)))
            parts = [Parts(frames, image()), Parts(frames, image())]
            goals = [[0, 1, None, 2], [3, 4, None, 5]]
            words = {0: page_words(0), 1: page_words(1), 2: page_words(3)}
            words.update({3: page_words(0), 4: page_words(1), 5: page_words(3)})
            for step in range(150):
                part, page, frame = dice.randrange(2), dice.randrange(SIZE), dice.randrange(frames.size())
                deed = dice.choice(("alone", "lead", "lead", "give", "fresh"))
                ahead = list(goals[part])
                wanted = self.done(frames, part, goals, deed, page, frame)
                things = (page, frame) if deed == "lead" else (page,)
                self.assertEqual(self.outcome(getattr(parts[part], deed), *things), wanted)
                if ahead != goals[part]:
                    words = self.words_behind(deed, page, frame, ahead, goals[part], words)
                every = [goal for other in goals for goal in other if goal is not None]
                self.assertEqual([other.told() for other in parts], goals)
                self.owned(frames, {frame: every.count(frame) for frame in set(every)})
                for other, leads in zip(parts, goals):
                    self.assertEqual(other.pages(), [None if goal is None else words[goal] for goal in leads])


if __name__ == "__main__":
    unittest.main()
