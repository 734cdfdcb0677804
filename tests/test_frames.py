"""Points 19 and 20, with points 2, 3 and 8: frames, their owners, and what is promised ahead of taking."""

import random
import unittest

from shadowpages.errors import HouseError, NoFrame, NoPage, NoPlace, NoWord
from shadowpages.frames import Frames
from shadowpages.store import Store
from things import LONG, NO_CELLS, NO_WHOLES, NO_WORDS, TOP, no_numbers

NOUGHTS = [0] * 8


def words_of(frames, frame):
    return [frames.read(frame, cell) for cell in range(8)]


def state(frames):
    """All that can be asked of frames."""
    taken = [frame for frame in range(frames.size()) if frames.has(frame)]
    owners = [frames.owners(frame) for frame in range(frames.size())]
    words = [words_of(frames, frame) for frame in taken]
    return (frames.size(), taken, owners, words, frames.free(), frames.promised())


def with_taken(many, taken, free=()):
    """Frames of which the first ones are taken, but for some that are free again; frame f bears f * 10 + cell."""
    frames = Frames(many)
    for frame in range(taken):
        frames.take()
        for cell in range(8):
            frames.write(frame, cell, frame * 10 + cell)
    for frame in free:
        frames.drop(frame)
    return frames


class Cases(unittest.TestCase):
    def refused(self, frames, kind, asked, *things):
        """asked is refused with just this class, and changes nothing."""
        ahead = state(frames)
        with self.assertRaises(HouseError) as caught:
            asked(*things)
        self.assertIs(type(caught.exception), kind)
        self.assertEqual(state(frames), ahead)


class Making(unittest.TestCase):
    def test_frames_are_a_store(self):
        self.assertTrue(issubclass(Frames, Store))
        self.assertIsInstance(Frames(1), Store)

    def test_at_first(self):
        for many in (1, 2, 24, 25, 199, 200):
            self.assertEqual(state(Frames(many)), (many, [], [0] * many, [], many, 0))

    def test_by_its_arguments_name(self):
        self.assertEqual(Frames(many=7).size(), 7)

    def test_refused(self):
        for many in NO_WHOLES + (0, -1, -200, 201, 202, TOP, LONG, -LONG):
            with self.assertRaises(HouseError) as caught:
                Frames(many)
            self.assertIs(type(caught.exception), NoFrame)

    def test_kinds(self):
        frames = Frames(3)
        for told in (frames.take(), frames.owners(0), frames.owners(1), frames.free(), frames.promised()):
            self.assertIs(type(told), int)
        for told in (frames.ask(1), frames.ask(3), frames.has(0), frames.has(2)):
            self.assertIs(type(told), bool)
        for told in (frames.share(0), frames.drop(0), frames.write(0, 0, 1), frames.back(1)):
            self.assertIsNone(told)


class Taking(Cases):
    def test_one_after_the_other(self):
        for many in (1, 2, 200):
            frames = Frames(many)
            for frame in range(many):
                self.assertEqual(frames.take(), frame)
                self.assertEqual(frames.owners(frame), 1)
                self.assertEqual(words_of(frames, frame), NOUGHTS)
                self.assertEqual(frames.free(), many - frame - 1)
            self.refused(frames, NoFrame, frames.take)
            self.refused(frames, NoFrame, frames.take)

    def test_the_least_free_one(self):
        for free in ((0,), (3,), (9,), (4, 2), (9, 0), (7, 8, 1), (1, 8, 7)):
            frames = with_taken(12, 10, free)
            for frame in sorted(free) + [10, 11]:
                self.assertEqual(frames.take(), frame)
            self.refused(frames, NoFrame, frames.take)

    def test_of_noughts_where_it_bore_other_words(self):
        frames = with_taken(5, 5, (3,))
        self.assertEqual(frames.take(), 3)
        self.assertEqual(words_of(frames, 3), NOUGHTS)
        self.assertEqual(frames.owners(3), 1)
        for frame in (0, 1, 2, 4):
            self.assertEqual(words_of(frames, frame), [frame * 10 + cell for cell in range(8)])

    def test_the_last_one_free_again(self):
        frames = with_taken(200, 200)
        self.refused(frames, NoFrame, frames.take)
        frames.drop(117)
        self.assertEqual(frames.free(), 1)
        self.assertEqual(frames.take(), 117)
        self.refused(frames, NoFrame, frames.take)

    def test_each_has_words_of_its_own(self):
        frames = with_taken(3, 3)
        frames.write(1, 7, TOP - 1)
        self.assertEqual([words_of(frames, frame)[7] for frame in range(3)], [7, TOP - 1, 27])
        frames.drop(0)
        frames.drop(1)
        frames.take()
        frames.take()
        frames.write(0, 0, 5)
        self.assertEqual([words_of(frames, frame)[0] for frame in range(3)], [5, 0, 20])


class Owners(Cases):
    def test_share_and_drop(self):
        frames = with_taken(4, 3)
        for owners in (2, 3, 4, 5):
            self.assertIsNone(frames.share(1))
            self.assertEqual([frames.owners(frame) for frame in range(4)], [1, owners, 1, 0])
            self.assertEqual(frames.free(), 1)
        for owners in (4, 3, 2, 1, 0):
            self.assertIsNone(frames.drop(1))
            self.assertEqual([frames.owners(frame) for frame in range(4)], [1, owners, 1, 0])
            self.assertEqual(frames.free(), 2 if owners == 0 else 1)
            self.assertIs(frames.has(1), owners > 0)

    def test_the_words_stay_while_there_is_an_owner(self):
        frames = with_taken(3, 3)
        frames.share(2)
        frames.drop(2)
        self.assertEqual(words_of(frames, 2), [20, 21, 22, 23, 24, 25, 26, 27])

    def test_dropped_and_taken_again_it_has_one_owner(self):
        frames = with_taken(2, 2)
        frames.share(0)
        frames.drop(0)
        frames.drop(0)
        self.assertEqual(frames.owners(0), 0)
        self.refused(frames, NoFrame, frames.drop, 0)
        self.refused(frames, NoFrame, frames.share, 0)
        self.assertEqual(frames.take(), 0)
        self.assertEqual(frames.owners(0), 1)
        frames.drop(0)
        self.refused(frames, NoFrame, frames.drop, 0)

    def test_many_owners(self):
        frames = with_taken(1, 1)
        for owner in range(1000):
            frames.share(0)
        self.assertEqual(frames.owners(0), 1001)

    def test_of_things_of_any_kind(self):
        for many in (2, 200):
            frames = with_taken(many, many, (1,))
            for thing in NO_WHOLES + (1, -1, -many, many, many + 1, 200, 201, 2 ** 40, TOP, LONG, -LONG):
                self.refused(frames, NoFrame, frames.share, thing)
                self.refused(frames, NoFrame, frames.drop, thing)
                self.assertEqual(frames.owners(thing), 0)
                self.assertIs(type(frames.owners(thing)), int)
                self.assertIs(frames.has(thing), False)

    def test_by_their_arguments_names(self):
        frames = with_taken(2, 2)
        frames.share(frame=1)
        self.assertEqual(frames.owners(frame=1), 2)
        frames.drop(frame=1)
        self.assertEqual(frames.owners(frame=1), 1)


class AsAStore(Cases):
    def test_those_taken_are_there(self):
        frames = with_taken(6, 5, (1, 3))
        self.assertEqual([frames.has(frame) for frame in range(6)], [True, False, True, False, True, False])
        self.assertEqual(frames.size(), 6)

    def test_read_and_write(self):
        frames = with_taken(200, 200)
        for frame in (0, 1, 24, 199):
            for cell in range(8):
                self.assertEqual(frames.read(frame, cell), frame * 10 + cell)
                self.assertIsNone(frames.write(frame, cell, TOP - 1 - cell))
                self.assertEqual(frames.read(frame, cell), TOP - 1 - cell)
        self.assertEqual(words_of(frames, 2), [20, 21, 22, 23, 24, 25, 26, 27])

    def test_write_changes_one_word_alone(self):
        frames = with_taken(4, 3)
        wanted = state(frames)
        frames.write(2, 5, 77)
        wanted[3][2][5] = 77
        self.assertEqual(state(frames), wanted)

    def test_of_a_shared_one(self):
        frames = with_taken(2, 2)
        frames.share(1)
        frames.write(1, 0, 5)
        self.assertEqual(frames.read(1, 0), 5)
        self.assertEqual(frames.owners(1), 2)

    def test_refused(self):
        frames = with_taken(4, 3, (1,))
        for page in no_numbers(4) + (1, 3):
            self.refused(frames, NoPage, frames.read, page, 0)
            self.refused(frames, NoPage, frames.read, page, 8)
            self.refused(frames, NoPage, frames.write, page, 0, 77)
            self.refused(frames, NoPage, frames.write, page, 8, TOP)
        for cell in NO_CELLS:
            self.refused(frames, NoPlace, frames.read, 0, cell)
            self.refused(frames, NoPlace, frames.write, 0, cell, 77)
            self.refused(frames, NoPlace, frames.write, 0, cell, TOP)
        for word in NO_WORDS:
            self.refused(frames, NoWord, frames.write, 0, 0, word)

    def test_by_their_arguments_names(self):
        frames = with_taken(2, 2)
        frames.write(page=1, cell=2, word=3)
        self.assertEqual(frames.read(page=1, cell=2), 3)
        self.assertIs(frames.has(page=1), True)


class Promised(unittest.TestCase):
    def asked(self, frames, count, told, promised):
        ahead = state(frames)
        self.assertIs(frames.ask(count), told)
        self.assertEqual(state(frames), ahead[:5] + (promised,))

    def test_at_its_bounds(self):
        for many in (1, 2, 10, 200):
            self.asked(Frames(many), many, True, many)
            self.asked(Frames(many), many + 1, False, 0)
            self.asked(Frames(many), LONG, False, 0)
            frames = Frames(many)
            self.asked(frames, 0, True, 0)
            self.asked(frames, many - 1, True, many - 1)
            self.asked(frames, 2, False, many - 1)
            self.asked(frames, 1, True, many)
            self.asked(frames, 0, True, many)
            self.asked(frames, 1, False, many)
            frames.back(1)
            self.asked(frames, 2, False, many - 1)
            self.asked(frames, 1, True, many)

    def test_back(self):
        frames = Frames(10)
        frames.ask(7)
        for count, promised in ((0, 7), (1, 6), (4, 2), (2, 0), (0, 0)):
            ahead = state(frames)
            self.assertIsNone(frames.back(count))
            self.assertEqual(state(frames), ahead[:5] + (promised,))

    def test_taking_asks_nothing_of_what_was_promised(self):
        frames = Frames(3)
        self.assertEqual([frames.take(), frames.take(), frames.take()], [0, 1, 2])
        self.assertEqual(frames.promised(), 0)
        self.asked(frames, 3, True, 3)
        frames = Frames(3)
        frames.ask(3)
        self.assertEqual([frames.take(), frames.take(), frames.take()], [0, 1, 2])
        self.assertEqual((frames.promised(), frames.free()), (3, 0))
        frames.share(1)
        frames.drop(0)
        self.assertEqual(frames.promised(), 3)

    def test_by_their_arguments_names(self):
        frames = Frames(3)
        self.assertIs(frames.ask(count=2), True)
        frames.back(count=1)
        self.assertEqual(frames.promised(), 1)


class AgainstPlainDicts(unittest.TestCase):
    """Many deeds, against owners and words kept in dicts."""

    def test_many_deeds(self):
        for seed in range(60):
            dice = random.Random(seed)
            many = dice.choice((1, 2, 5, 9))
            frames, owners, words, promised = Frames(many), {}, {}, 0
            for step in range(200):
                deed = dice.choice(("take", "take", "share", "drop", "drop", "write", "ask", "back"))
                frame = dice.randrange(many)
                if deed == "take" and len(owners) < many:
                    least = min(set(range(many)) - set(owners))
                    self.assertEqual(frames.take(), least)
                    owners[least], words[least] = 1, [0] * 8
                elif deed == "share" and frame in owners:
                    frames.share(frame)
                    owners[frame] += 1
                elif deed == "drop" and frame in owners:
                    frames.drop(frame)
                    owners[frame] -= 1
                    if owners[frame] == 0:
                        del owners[frame], words[frame]
                elif deed == "write" and frame in owners:
                    cell, word = dice.randrange(8), dice.randrange(TOP)
                    frames.write(frame, cell, word)
                    words[frame][cell] = word
                elif deed == "ask":
                    count = dice.randrange(4)
                    self.assertIs(frames.ask(count), promised + count <= many)
                    promised += count if promised + count <= many else 0
                elif deed == "back":
                    count = dice.randrange(promised + 1)
                    frames.back(count)
                    promised -= count
                taken = sorted(owners)
                wanted = (many, taken, [owners.get(frame, 0) for frame in range(many)])
                wanted += ([words[frame] for frame in taken], many - len(taken), promised)
                self.assertEqual(state(frames), wanted)


if __name__ == "__main__":
    unittest.main()
