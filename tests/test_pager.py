"""Points 32 to 38: the pager, step by step beside a plain one."""

import random
import unittest

from lentpages.errors import LimitError, MissingError, NoRoom, NoStamp, Starved
from lentpages.pager import Pager
from tests.plain import outcome
from tests.plain_frames import KINDS, PlainPager, random_step

QUESTIONS = ("room", "live", "frame_list", "place_list", "page_in_count", "page_out_count", "ledger", "sweep")
NEEDS_STAMP = {
    "bring": (), "read": (0, 1), "store": (0, [1]), "release": (), "put_out": (), "pin": (), "duplicate": (900,),
    "rename": (900,),
}


def fingerprint(pager):
    """All that a pager tells without a change."""
    return [getattr(pager, name)() for name in QUESTIONS]


class Contents:
    """A plain dict from stamps to what was stored, duplicated or renamed last."""

    def __init__(self, page_size):
        self.page_size = page_size
        self.table = {}

    def note(self, name, *args):
        """Notes a deed that raised no error."""
        if name == "begin":
            self.table[args[0]] = [0] * self.page_size
        elif name == "duplicate":
            self.table[args[1]] = list(self.table[args[0]])
        elif name == "rename":
            self.table[args[1]] = self.table.pop(args[0])
        elif name == "store":
            stamp, offset, data = args
            self.table[stamp][offset:offset + len(data)] = data
        elif name == "release":
            del self.table[args[0]]


class RandomStepsTest(unittest.TestCase):
    def run_steps(self, frames, places, page_size, kind, steps):
        """Does random steps on a pager, on a plain one and on a dict."""
        rng = random.Random(1000 * frames + 10 * places + page_size)
        pager = Pager(frames, places, page_size, chooser=kind)
        plain = PlainPager(frames, places, page_size, chooser=kind)
        contents = Contents(page_size)
        for _ in range(steps):
            name, *args = random_step(rng, plain, page_size)
            before = fingerprint(pager)
            found = outcome(getattr(pager, name), *args)
            with self.subTest(frames=frames, places=places, chooser=kind, name=name, args=args, before=before):
                self.assertEqual(found, outcome(getattr(plain, name), *args))
                self.assertEqual(fingerprint(pager), fingerprint(plain))
                if found[0] == "returned":
                    contents.note(name, *args)
                elif found[1] is not Starved or name != "duplicate":
                    self.assertEqual(fingerprint(pager), before)
                self.assertEqual(pager.live(), sorted(contents.table))
                self.check_read(name, args, found, contents)
        pager.unpin()
        for stamp in pager.live():
            self.assertEqual(pager.read(stamp, 0, page_size), contents.table[stamp])

    def check_read(self, name, args, found, contents):
        if name == "read" and found[0] == "returned":
            stamp, offset, length = args
            self.assertEqual(found[1], contents.table[stamp][offset:offset + length])

    def test_small_pagers(self):
        for kind in KINDS:
            for frames in (1, 2, 3, 5):
                for places in (0, 1, 2, 3, 6):
                    self.run_steps(frames, places, (frames * places) % 16 + 1, kind, 200)

    def test_many_places_and_few_frames(self):
        for kind in KINDS:
            self.run_steps(2, 64, 16, kind, 250)
            self.run_steps(1, 10, 1, kind, 250)

    def test_many_frames_and_few_places(self):
        for kind in KINDS:
            self.run_steps(64, 3, 2, kind, 300)
            self.run_steps(9, 2, 16, kind, 300)

    def test_beyond_the_limits(self):
        for kind in KINDS:
            self.run_steps(66, 67, 20, kind, 300)


class RoomTest(unittest.TestCase):
    def test_room(self):
        for frames, places, room in ((1, 0, 1), (1, 1, 1), (1, 2, 2), (3, 0, 3), (3, 1, 3), (3, 4, 6), (64, 64, 127)):
            self.assertEqual(Pager(frames, places, 1).room(), room)

    def test_as_many_stamps_as_there_is_room(self):
        for kind in KINDS:
            for frames in (1, 2, 4, 64):
                for places in (0, 1, 2, 5, 64):
                    pager = Pager(frames, places, 2, chooser=kind)
                    room = pager.room()
                    for stamp in range(1, room + 1):
                        pager.begin(stamp)
                        pager.store(stamp, 0, [stamp, 255 - stamp])
                    self.check_full(pager, room)
                    for stamp in range(1, room + 1):
                        self.assertEqual(pager.read(stamp, 0, 2), [stamp, 255 - stamp])

    def check_full(self, pager, room):
        before = fingerprint(pager)
        for name, args in (("begin", (500,)), ("duplicate", (1, 500))):
            with self.assertRaises(NoRoom) as caught:
                getattr(pager, name)(*args)
            self.assertEqual(vars(caught.exception), {"needed": room + 1, "limit": room})
            self.assertIsInstance(caught.exception, LimitError)
        self.assertEqual(fingerprint(pager), before)


class NoStampTest(unittest.TestCase):
    def test_stamps_that_are_not_live(self):
        pager = Pager(2, 3, 2)
        for stamp in (4, 2, 3):
            pager.begin(stamp)
        pager.release(2)
        pager.rename(3, 7)
        before = fingerprint(pager)
        for stamp in (0, 1, 2, 3, 8):
            for name, rest in NEEDS_STAMP.items():
                with self.assertRaises(NoStamp) as caught:
                    getattr(pager, name)(stamp, *rest)
                self.assertEqual(vars(caught.exception), {"stamp": stamp})
                self.assertIsInstance(caught.exception, MissingError)
        self.assertEqual(fingerprint(pager), before)

    def test_before_anything_else(self):
        pager = Pager(1, 0, 1)
        pager.begin(1)
        pager.pin(1)
        for name, rest in NEEDS_STAMP.items():
            self.assertEqual(outcome(getattr(pager, name), 5, *rest), ("raised", NoStamp, {"stamp": 5}))


class ObtainTest(unittest.TestCase):
    def test_the_lowest_empty_frame(self):
        pager = Pager(4, 4, 1)
        for stamp in (11, 12, 13, 14):
            pager.begin(stamp)
        pager.release(13)
        pager.release(12)
        pager.begin(15)
        self.assertEqual(pager.frame_list(), [11, 15, 0, 14])
        pager.put_out(11)
        pager.begin(16)
        pager.bring(11)
        self.assertEqual((pager.frame_list(), pager.place_list()), ([16, 15, 11, 14], [11, 0, 0, 0]))

    def test_the_chooser_chooses_among_frames_that_are_not_pinned(self):
        for kind, wanted in (("lru", 12), ("fifo", 12), ("newest", 13), ("clock", 12)):
            pager = Pager(4, 4, 1, chooser=kind)
            for stamp in (11, 12, 13, 14):
                pager.begin(stamp)
            pager.pin(11)
            pager.pin(14)
            pager.begin(15)
            self.assertEqual(pager.left(), [wanted])

    def test_starved(self):
        pager = Pager(2, 3, 1)
        for stamp in (1, 2, 3):
            pager.begin(stamp)
        pager.pin(2)
        pager.pin(3)
        before = fingerprint(pager)
        deeds = (("bring", 1), ("begin", 9), ("duplicate", 1, 9), ("duplicate", 2, 9), ("rename", 1, 9))
        for name, *args in deeds + (("read", 1, 0, 1), ("store", 1, 0, [5]), ("pin", 1)):
            found = outcome(getattr(pager, name), *args)
            self.assertEqual(found, ("raised", Starved, {"needed": 3, "limit": 2}))
            self.assertEqual(fingerprint(pager), before)
        self.assertEqual(pager.left(), [1])
        pager.unpin()
        # The failed copying of stamp 2 has brought it, so stamp 3 was used least recently.
        pager.bring(1)
        self.assertEqual(pager.frame_list(), [1, 2])

    def test_an_empty_frame_is_taken_though_all_others_are_pinned(self):
        pager = Pager(2, 0, 1)
        pager.begin(1)
        pager.pin(1)
        pager.begin(2)
        self.assertEqual(pager.frame_list(), [1, 2])

    def test_a_brought_stamp_is_touched(self):
        pager = Pager(2, 3, 1)
        pager.begin(1)
        pager.begin(2)
        pager.bring(1)
        pager.begin(3)
        self.assertEqual((pager.frame_list(), pager.place_list()), ([1, 3], [2, 0, 0]))

    def test_no_room_comes_before_starved(self):
        pager = Pager(1, 0, 1)
        pager.begin(1)
        pager.pin(1)
        self.assertEqual(outcome(pager.begin, 2)[1], NoRoom)
        self.assertEqual(outcome(pager.duplicate, 1, 2)[1], NoRoom)


class PutOutTest(unittest.TestCase):
    def test_the_lowest_free_place(self):
        pager = Pager(3, 3, 1)
        for stamp in (1, 2, 3):
            pager.begin(stamp)
            self.assertIs(pager.put_out(stamp), True)
        pager.release(2)
        pager.begin(5)
        pager.put_out(5)
        self.assertEqual((pager.place_list(), pager.page_out_count()), ([1, 5, 3], 4))

    def test_the_place_of_the_lowest_stamp_on_both(self):
        pager = Pager(3, 3, 1)
        for stamp in (8, 6, 7):
            pager.begin(stamp)
            pager.put_out(stamp)
        for stamp in (8, 7):
            pager.bring(stamp)
        pager.begin(5)
        pager.store(5, 0, [9])
        self.assertIs(pager.put_out(5), True)
        self.assertEqual((pager.place_list(), pager.frame_list()), ([8, 6, 5], [8, 7, 0]))
        self.assertEqual(pager.read(5, 0, 1), [9])
        self.assertEqual(pager.live(), [5, 6, 7, 8])

    def test_a_stamp_with_a_place_is_not_written_again(self):
        pager = Pager(1, 2, 1)
        pager.begin(1)
        pager.put_out(1)
        pager.bring(1)
        self.assertIs(pager.put_out(1), True)
        self.assertEqual((pager.page_in_count(), pager.page_out_count(), len(pager.ledger())), (1, 1, 2))
        self.assertEqual((pager.frame_list(), pager.place_list(), pager.left()), ([0], [1, 0], [1, 1]))

    def test_three_reasons_for_false(self):
        pager = Pager(3, 1, 1)
        pager.begin(1)
        pager.put_out(1)
        self.check_false(pager, 1)
        pager.begin(2)
        # The only place has a stamp that is in no frame.
        self.check_false(pager, 2)
        pager.bring(1)
        pager.pin(2)
        self.check_false(pager, 2)
        pager.unpin()
        self.assertIs(pager.put_out(2), True)
        self.assertEqual((pager.frame_list(), pager.place_list()), ([0, 1, 0], [2]))

    def check_false(self, pager, stamp):
        before = fingerprint(pager)
        self.assertIs(pager.put_out(stamp), False)
        self.assertEqual(fingerprint(pager), before)

    def test_without_places(self):
        pager = Pager(2, 0, 1)
        pager.begin(1)
        self.check_false(pager, 1)
        self.assertEqual((pager.left(), pager.sweep(), pager.place_list()), ([], [], []))

    def test_a_false_put_out_tells_the_chooser_nothing(self):
        pager = Pager(2, 2, 1, chooser="clock")
        pager.begin(1)
        pager.begin(2)
        pager.pin(1)
        self.assertIs(pager.put_out(1), False)
        pager.unpin()
        # Both bits are still 1, so the hand takes both away and comes back to frame 0.
        pager.begin(3)
        self.assertEqual(pager.frame_list(), [3, 2])


class MethodsTest(unittest.TestCase):
    def filled(self, frames, places, stamps, kind="lru"):
        pager = Pager(frames, places, 2, chooser=kind)
        for stamp in stamps:
            pager.begin(stamp)
            pager.store(stamp, 0, [stamp, stamp])
        return pager

    def test_begin(self):
        pager = Pager(1, 2, 3)
        pager.begin(4)
        self.assertEqual(pager.read(4, 0, 3), [0, 0, 0])
        pager.store(4, 0, [1, 2, 3])
        pager.begin(5)
        self.assertEqual(pager.read(5, 0, 3), [0, 0, 0])
        pager.release(4)
        pager.begin(4)
        self.assertEqual(pager.read(4, 0, 3), [0, 0, 0])

    def test_duplicate_takes_another_frame(self):
        for kind in KINDS:
            pager = self.filled(2, 4, [1, 2], kind)
            pager.duplicate(1, 3)
            self.assertEqual(pager.frame_list(), [1, 3])
            pager.store(3, 1, [9])
            self.assertEqual([pager.read(stamp, 0, 2) for stamp in (1, 2, 3)], [[1, 1], [2, 2], [1, 9]])

    def test_duplicate_with_one_frame(self):
        for kind in KINDS:
            pager = self.filled(1, 3, [1, 2], kind)
            pager.duplicate(1, 3)
            self.assertEqual((pager.frame_list(), pager.place_list(), pager.left()), ([3], [1, 2, 0], [1, 2, 1]))
            self.assertEqual([pager.read(stamp, 0, 2) for stamp in (1, 2, 3)], [[1, 1], [2, 2], [1, 1]])

    def test_duplicate_with_all_others_pinned(self):
        for kind in KINDS:
            pager = self.filled(2, 4, [1, 2], kind)
            pager.pin(2)
            pager.duplicate(1, 3)
            self.assertEqual((pager.frame_list(), pager.place_list()), ([3, 2], [1, 0, 0, 0]))

    def test_duplicate_of_a_pinned_stamp(self):
        for kind in KINDS:
            pager = self.filled(2, 4, [1, 2], kind)
            pager.pin(1)
            pager.duplicate(1, 3)
            self.assertEqual((pager.frame_list(), pager.left()), ([1, 3], [2]))
            pager.pin(3)
            before = fingerprint(pager)
            self.assertEqual(outcome(pager.duplicate, 1, 4), ("raised", Starved, {"needed": 3, "limit": 2}))
            self.assertEqual(fingerprint(pager), before)

    def test_duplicate_takes_an_empty_frame_first(self):
        pager = self.filled(3, 3, [1, 2, 3])
        pager.release(2)
        pager.pin(3)
        pager.duplicate(1, 4)
        self.assertEqual(pager.frame_list(), [1, 4, 3])
        # A brought stamp is put out for its own copy when the only other frame is pinned.
        pager = self.filled(2, 4, [1, 2, 3])
        pager.pin(2)
        self.assertEqual(pager.frame_list(), [3, 2])
        pager.duplicate(1, 4)
        self.assertEqual((pager.frame_list(), pager.left()), ([4, 2], [1, 3, 1]))
        self.assertEqual(pager.read(4, 0, 2), [1, 1])

    def test_after_starved_the_bringing_stays_done(self):
        pager = self.filled(2, 4, [1, 2], "lru")
        pager.pin(1)
        pager.pin(2)
        self.assertEqual(outcome(pager.duplicate, 1, 3)[1], Starved)
        pager.unpin()
        # Frame 0 was touched by the bringing, so frame 1 is the one that was used least recently.
        pager.begin(4)
        self.assertEqual(pager.frame_list(), [1, 4])

    def test_rename_keeps_frame_and_pin_and_frees_the_place(self):
        pager = self.filled(2, 3, [1, 2])
        pager.put_out(1)
        pager.pin(1)
        self.assertEqual((pager.frame_list(), pager.place_list()), ([1, 2], [1, 0, 0]))
        pager.rename(1, 9)
        self.assertEqual((pager.frame_list(), pager.place_list(), pager.live()), ([9, 2], [0, 0, 0], [2, 9]))
        self.assertIs(pager.put_out(9), False)
        self.assertEqual(pager.read(9, 0, 2), [1, 1])
        pager.bring(9)
        pager.begin(3)
        self.assertEqual(pager.frame_list(), [9, 3])

    def test_rename_at_the_limit(self):
        pager = self.filled(1, 2, [1, 2])
        pager.rename(1, 3)
        self.assertEqual((pager.live(), pager.frame_list(), pager.place_list()), ([2, 3], [3], [0, 2]))

    def test_store_frees_the_place(self):
        pager = self.filled(1, 2, [1])
        pager.put_out(1)
        pager.bring(1)
        self.assertEqual(pager.place_list(), [1, 0])
        pager.store(1, 1, [200])
        self.assertEqual((pager.place_list(), len(pager.ledger())), ([0, 0], 2))
        pager.put_out(1)
        self.assertEqual(pager.read(1, 0, 2), [1, 200])

    def test_read_keeps_the_place(self):
        pager = self.filled(1, 2, [1])
        pager.put_out(1)
        self.assertEqual((pager.read(1, 1, 1), pager.read(1, 0, 0), pager.read(1, 2, 0)), ([1], [], []))
        self.assertEqual((pager.place_list(), pager.page_in_count()), ([1, 0], 1))

    def test_release_ends_pin_frame_and_place(self):
        pager = self.filled(2, 2, [1, 2])
        pager.put_out(1)
        pager.pin(1)
        pager.release(1)
        self.assertEqual((pager.frame_list(), pager.place_list(), pager.live()), ([0, 2], [0, 0], [2]))
        pager.begin(1)
        self.assertIs(pager.put_out(1), True)
        pager.release(1)
        self.assertEqual((pager.place_list(), pager.left()), ([0, 0], [1, 1]))

    def test_unpin_ends_all_pins(self):
        pager = self.filled(2, 2, [1, 2])
        pager.pin(1)
        pager.pin(1)
        pager.pin(2)
        pager.unpin()
        self.assertEqual([pager.put_out(1), pager.put_out(2)], [True, True])
        pager.unpin()

    def test_data_stays_apart(self):
        pager = Pager(2, 2, 3)
        pager.begin(1)
        data = [7, 8]
        pager.store(1, 1, data)
        self.assertEqual(data, [7, 8])
        data[0] = 99
        read = pager.read(1, 0, 3)
        self.assertEqual(read, [0, 7, 8])
        read[1] = 55
        read.append(5)
        self.assertEqual(pager.read(1, 0, 3), [0, 7, 8])
        pager.duplicate(1, 2)
        pager.store(1, 0, [4])
        self.assertEqual(pager.read(2, 0, 3), [0, 7, 8])


class ListsTest(unittest.TestCase):
    def test_a_new_pager(self):
        pager = Pager(2, 3, 1)
        self.assertEqual((pager.live(), pager.frame_list(), pager.place_list()), ([], [0, 0], [0, 0, 0]))
        self.assertEqual((pager.page_in_count(), pager.page_out_count(), pager.left()), (0, 0, []))
        self.assertEqual((pager.ledger(), pager.sweep()), ([], [(0, 0, 0), (1, 0, 0), (2, 0, 0)]))

    def test_left_names_each_putting_out_under_its_name_at_that_time(self):
        pager = Pager(1, 3, 1)
        pager.begin(5)
        pager.begin(4)
        pager.rename(5, 9)
        pager.put_out(9)
        pager.bring(9)
        pager.put_out(9)
        pager.release(4)
        pager.release(9)
        self.assertEqual(pager.left(), [5, 4, 9, 9])
        self.assertEqual(pager.left(), [])
        pager.begin(1)
        pager.release(1)
        self.assertEqual(pager.left(), [])

    def test_lists_are_new(self):
        pager = Pager(2, 2, 1)
        for stamp in (1, 2, 3):
            pager.begin(stamp)
        for name in ("live", "frame_list", "place_list", "ledger", "sweep"):
            wanted = list(getattr(pager, name)())
            changed = getattr(pager, name)()
            self.assertNotEqual(changed, [])
            changed.append(None)
            changed[0] = None
            self.assertEqual(getattr(pager, name)(), wanted)
        left = pager.left()
        pager.put_out(2)
        self.assertEqual(left, [1])
        left.append(8)
        self.assertEqual(pager.left(), [2])

    def test_two_pagers_know_nothing_of_each_other(self):
        first = Pager(1, 2, 1)
        second = Pager(1, 2, 1)
        first.begin(1)
        first.begin(2)
        self.assertEqual((second.live(), second.frame_list(), second.ledger(), second.left()), ([], [0], [], []))


class LedgerTest(unittest.TestCase):
    def test_the_example_of_the_document(self):
        pager = Pager(1, 2, 1)
        pager.begin(1)
        pager.store(1, 0, [7])
        pager.begin(2)
        self.assertEqual(pager.read(1, 0, 1), [7])
        self.assertEqual((pager.frame_list(), pager.place_list()), ([1], [1, 2]))
        self.assertEqual(pager.ledger(), [(0, 0, 0, 1), (1, 0, 0, 2), (0, 1, 1, 1)])
        self.assertEqual(pager.sweep(), [(0, 1, 3), (1, 2, 2)])

    def test_freeing_a_place_is_no_use(self):
        pager = Pager(1, 2, 1)
        pager.begin(1)
        pager.put_out(1)
        pager.release(1)
        self.assertEqual((pager.ledger(), pager.sweep()), ([(0, 0, 0, 1)], [(0, 1, 1), (1, 0, 0)]))
        pager.begin(2)
        pager.put_out(2)
        pager.store(2, 0, [1])
        pager.rename(2, 3)
        pager.put_out(3)
        rows = [(0, 0, 0, 1), (0, 1, 1, 2), (0, 2, 2, 2), (0, 2, 3, 3)]
        self.assertEqual((pager.ledger(), pager.sweep()), (rows, [(0, 3, 4), (1, 0, 0)]))

    def test_a_place_that_is_taken_over_is_used_once(self):
        pager = Pager(2, 1, 1)
        pager.begin(1)
        pager.put_out(1)
        pager.bring(1)
        pager.begin(2)
        pager.put_out(2)
        self.assertEqual(pager.ledger(), [(0, 0, 0, 1), (0, 1, 1, 1), (0, 1, 2, 2)])
        self.assertEqual(pager.sweep(), [(0, 2, 3)])


if __name__ == "__main__":
    unittest.main()
