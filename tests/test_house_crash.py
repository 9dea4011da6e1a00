"""Points 61, 62, 66 and 67: sync, power failures, checkpoints and attempts of a house."""

import unittest

from lentpages.errors import (
    BadRange, Denied, NoBlocks, NoCheckpoint, NoFile, NoRoom, NoSpace, PagesError, Unmapped,
)
from lentpages.house import House
from tests.plain import outcome


def filled_house(**more):
    """A house whose file "a" has the stamps 1, 2, 3 on its pages 0, 1, 2; a space maps and copies it."""
    house = House(**{"widths": (2, 2), "page_size": 2, "frames": 3, "places": 8, **more})
    house.create_file("a", 4)
    house.write_file("a", 1, [1, 2, 3, 4])
    house.create_space()
    house.map_shared(0, 0, 2, "rw", "a", 0)
    house.map_private(0, 2, 2, "rw", "a", 0)
    return house


def files_of(house):
    return [
        (name, [house.file_stamp(name, page) for page in range(size)], house.read_file(name, 0, size * house.page_size))
        for name, size in house.files()
    ]


def fingerprint(house):
    """What a house tells of spaces, files, stamps, frames and caches."""
    found = [house.spaces(), [house.regions(space) for space in house.spaces()], house.files(), house.stamps()]
    found += [house.in_frames(), house.in_places(), house.cached(0), house.ledger(), house.walks(), house.copies()]
    return found + [house.table_count(), [house.holders(stamp) for stamp in house.stamps()]]


def plain_state(house):
    """What a house tells of its space 0, its files and stamps."""
    return (house.spaces(), house.regions(0), house.read(0, 0, 8), files_of(house), house.stamps())


class SyncTest(unittest.TestCase):
    def test_the_number_of_blocks(self):
        house = filled_house()
        # Three tables (the root and two below), three stamps and the list of files; afterwards what has changed.
        self.assertEqual((house.sync(), house.sync()), (7, 1))
        house.write_file("a", 0, [9])
        self.assertEqual(house.sync(), 4)
        house.copy_file("a", "b")
        self.assertEqual(house.sync(), 1)
        house.write(0, 4, [7])
        self.assertEqual(house.sync(), 1)

    def test_no_blocks(self):
        for blocks in range(2, 12):
            house = filled_house(blocks=blocks)
            before = fingerprint(house)
            if blocks < 9:
                for name, more in (("sync", {}), ("crash", {"stop": 0}), ("crash", {"stop": 99, "fates": [1]})):
                    found = outcome(getattr(house, name), **more)
                    self.assertEqual(found, ("raised", NoBlocks, {"needed": 9, "limit": blocks}))
                    self.assertEqual(fingerprint(house), before)
            else:
                self.assertEqual(house.sync(), 7)

    def test_sync_changes_no_bytes(self):
        house = filled_house(frames=1, places=9)
        before = files_of(house)
        house.sync()
        self.assertEqual((files_of(house), house.read(0, 0, 8)), (before, [0, 1, 2, 3, 0, 1, 2, 3]))


class CrashTest(unittest.TestCase):
    def test_before_the_first_commit(self):
        house = filled_house()
        house.checkpoint()
        house.crash()
        self.assertEqual((house.spaces(), house.files(), house.stamps(), house.table_count()), ([], [], [], 0))
        self.assertEqual((house.in_frames(), house.in_places(), house.ledger()), ([], [], []))
        self.assertEqual(house.sweep(), [(place, 0, 0) for place in range(8)])

    def test_the_files_of_the_last_commit(self):
        house = filled_house()
        house.sync()
        wanted = files_of(house)
        tables = house.table_count()
        house.write_file("a", 0, [9] * 8)
        house.create_file("b", 2)
        house.checkpoint()
        house.crash(fates=[1, 1, 1])
        self.assertEqual((files_of(house), house.files()), (wanted, [("a", 4)]))
        self.assertEqual(house.stamps(), [1, 2, 3])
        # The tables of the space are gone, those of the file have the numbers from before.
        self.assertEqual((tables, house.table_count()), (5, 3))
        self.assertEqual(house.sync(), 1)

    def test_stop_and_fates(self):
        for stop in range(12):
            for fates in ((), (0,) * 9, (1,) * 9, (2,) * 9, [1, 0], [0, 1, 1]):
                house = filled_house()
                house.sync()
                old = files_of(house)
                house.write_file("a", 0, [8])
                house.delete_space(0)
                new = files_of(house)
                house.copy_file("a", "b")
                house.crash(stop=stop, fates=fates)
                done = stop >= 7 or (stop == 6 and list(fates[:1]) == [1])
                self.assertEqual(files_of(house), new + [("b",) + new[0][1:]] if done else old)
                self.assertEqual(house.spaces(), [])

    def test_the_numbers_go_on(self):
        house = filled_house()
        house.fork_space(0)
        house.write(0, 4, [1])
        house.read(0, 0, 8)
        self.assertEqual((house.checkpoint(), house.checkpoint()), (1, 2))
        house.sync()
        copies, walks = house.copies(), house.walks()
        house.crash()
        self.assertEqual((house.copies(), house.walks(), house.checkpoint()), (copies, walks, 3))
        for number in (1, 2, 4):
            self.assertEqual(outcome(house.go_back, number), ("raised", NoCheckpoint, {"number": number}))
        house.write_file("a", 0, [1])
        # Three writes, two copied pages and one write before the power failure.
        self.assertEqual((house.file_stamp("a", 0), house.create_space()), (7, 0))

    def test_tell_apart_still_knows_the_offsets(self):
        house = filled_house()
        house.sync()
        house.crash()
        house.create_space()
        house.map_shared(0, 0, 4, "rw", "a", 0)
        self.assertEqual([house.tell_apart(0, page, 0, 3) for page in range(4)], [(1, 1), (2, 0), (3, 0), None])

    def test_frames_and_caches_are_new(self):
        house = filled_house(frames=2, places=9)
        house.sync()
        house.read(0, 0, 8)
        house.held(1)
        house.crash()
        self.assertEqual((house.cached(0), house.in_frames(), house.in_places()), ([], [2, 3], [1]))
        self.assertEqual((house.ledger(), house.put_out(3)), ([(0, 0, 0, 1)], True))

    def test_again_and_again(self):
        house = filled_house()
        house.sync()
        for number in range(6):
            house.write_file("a", 6, [number, number])
            if number % 2:
                house.sync()
            house.crash(stop=(None, 4)[number % 2])
            wanted = number - 1 + number % 2
            self.assertEqual(house.read_file("a", 6, 2), [max(0, wanted)] * 2)


class CheckpointTest(unittest.TestCase):
    def test_numbers(self):
        house = filled_house()
        self.assertEqual([house.checkpoint() for _ in range(3)], [1, 2, 3])
        house.forget(3)
        house.forget(1)
        self.assertEqual(house.checkpoint(), 4)
        for number in (0, 1, 3, 5):
            for deed in (house.go_back, house.forget):
                before = fingerprint(house)
                self.assertEqual(outcome(deed, number), ("raised", NoCheckpoint, {"number": number}))
                self.assertEqual(fingerprint(house), before)

    def test_going_back_twice(self):
        house = filled_house()
        number = house.checkpoint()
        wanted = (house.regions(0), house.read(0, 0, 8), files_of(house), house.stamps())
        for _ in range(2):
            house.write(0, 0, [9] * 8)
            house.fork_space(0)
            house.delete_space(0)
            house.create_file("b", 1)
            house.resize_file("a", 1)
            house.go_back(number)
            self.assertEqual((house.spaces(), house.cached(0), house.files()), ([0], [], [("a", 4)]))
            self.assertEqual((house.regions(0), house.read(0, 0, 8), files_of(house), house.stamps()), wanted)
        # What is written after going back is not written to the checkpoint.
        house.write(0, 0, [7])
        house.protect(0, 0, 1, "")
        house.go_back(number)
        self.assertEqual((house.regions(0), house.read(0, 0, 8)), wanted[:2])

    def test_a_file_that_was_mapped_then(self):
        house = filled_house()
        number = house.checkpoint()
        house.delete_space(0)
        house.delete_file("a")
        house.create_file("a", 1)
        house.go_back(number)
        self.assertEqual((house.files(), house.read(0, 0, 4)), ([("a", 4)], [0, 1, 2, 3]))

    def test_its_slots_are_holders(self):
        house = House(widths=(4,), page_size=1, frames=2, places=0)
        house.create_space()
        house.map_plain(0, 0, 4, "rw")
        house.write(0, 0, [1])
        number = house.checkpoint()
        self.assertEqual((house.holders(1), house.growth(0, 0, 1)), ([(0, 0)], 1))
        house.write(0, 0, [2])
        self.assertEqual((house.stamps(), house.holders(1), house.copies(), house.table_count()), ([1, 2], [], 1, 2))
        self.assertEqual(outcome(house.write, 0, 1, [3]), ("raised", NoRoom, {"needed": 3, "limit": 2}))
        house.forget(number)
        self.assertEqual((house.stamps(), house.table_count()), ([2], 1))
        house.write(0, 1, [3])

    def test_after_a_crash_there_are_none(self):
        house = filled_house()
        number = house.checkpoint()
        house.crash()
        self.assertEqual(outcome(house.go_back, number), ("raised", NoCheckpoint, {"number": number}))
        self.assertEqual(outcome(house.forget, number), ("raised", NoCheckpoint, {"number": number}))
        self.assertEqual(house.checkpoint(), number + 1)


class AttemptTest(unittest.TestCase):
    def test_all_deeds(self):
        house = filled_house()
        deeds = [
            ("create_space",), ("map_plain", 1, 0, 2, "rw"), ("write", 1, 1, [5, 6]), ("fork_space", 1),
            ("protect", 2, 0, 1, ""), ("unmap", 1, 0, 1), ("write_file", "a", 0, [9]), ("delete_space", 0),
        ]
        before = [tuple(deed) for deed in deeds]
        self.assertEqual(house.attempt(deeds), [1, None, None, 2, None, None, None, None])
        self.assertEqual(deeds, before)
        self.assertEqual((house.spaces(), house.read(1, 2, 2), house.read_file("a", 0, 2)), ([1, 2], [6, 0], [9, 1]))
        self.assertEqual(house.regions(2), [(0, 1, "", "", 0), (1, 2, "rw", "", 0)])

    def test_the_number_is_used_up(self):
        house = filled_house()
        self.assertEqual(house.attempt([]), [])
        self.assertEqual(outcome(house.attempt, [("create_space",), ("unmap", 9, 0, 1)])[1], NoSpace)
        for number in (1, 2):
            self.assertEqual(outcome(house.forget, number)[1], NoCheckpoint)
        self.assertEqual(house.checkpoint(), 3)

    def test_each_error(self):
        rows = (
            (("fork_space", 5), NoSpace, {"space": 5}),
            (("delete_space", 5), NoSpace, {"space": 5}),
            (("map_plain", 0, 3, 2, "r"), BadRange, {"start": 3, "end": 5}),
            (("unmap", 0, 3, 0), BadRange, {"start": 3, "end": 3}),
            (("protect", 0, 3, 2, "r"), BadRange, {"start": 3, "end": 5}),
            (("write", 1, 0, [1]), Unmapped, {"page": 0}),
            (("write_file", "none", 0, [1]), NoFile, {"name": "none"}),
            (("write_file", "a", 8, [1]), BadRange, {"start": 8, "end": 9}),
        )
        for deed, error, fields in rows:
            house = filled_house()
            before = plain_state(house)
            deeds = [("create_space",), ("write", 0, 3, [9]), ("write_file", "a", 7, [8]), ("unmap", 0, 0, 1)]
            found = outcome(house.attempt, deeds + [deed, ("delete_space", 0)])
            self.assertEqual(found, ("raised", error, fields))
            self.assertEqual(plain_state(house), before)
            self.assertEqual(house.table_count(), filled_house().table_count())

    def test_denied(self):
        house = filled_house()
        deeds = [("protect", 0, 2, 1, "r"), ("write", 0, 4, [1])]
        self.assertEqual(outcome(house.attempt, deeds), ("raised", Denied, {"page": 2, "right": "w"}))
        house.write(0, 4, [1])

    def test_the_checkpoint_needs_room(self):
        house = House(widths=(4,), page_size=1, frames=2, places=0)
        house.create_space()
        house.map_plain(0, 0, 4, "rw")
        house.write(0, 0, [1, 2])
        found = outcome(house.attempt, [("write", 0, 0, [3])])
        self.assertEqual(found, ("raised", NoRoom, {"needed": 3, "limit": 2}))
        house.write(0, 0, [3])
        # A page that is unmapped in the attempt is still in the checkpoint.
        found = outcome(house.attempt, [("unmap", 0, 0, 2), ("map_plain", 0, 0, 1, "rw"), ("write", 0, 0, [3])])
        self.assertEqual(found, ("raised", NoRoom, {"needed": 3, "limit": 2}))
        self.assertEqual(house.read(0, 0, 4), [3, 2, 0, 0])

    def test_the_numbers_that_go_on(self):
        house = filled_house()
        house.checkpoint()
        copies, walks = house.copies(), house.walks()
        found = outcome(house.attempt, [("write", 0, 0, [1]), ("write", 0, 0, [1]), ("unmap", 0, 9, 1)])
        self.assertEqual(found[0], "raised")
        self.assertEqual((house.copies(), house.walks(), house.cached(0)), (copies + 1, walks + 1, []))
        house.write(0, 0, [1])
        # Three writes and two copied pages, two writes of the attempt, and this one.
        self.assertEqual(house.stamp_at(0, 0), 8)

    def test_a_success_keeps_the_other_keys(self):
        house = filled_house()
        house.write(0, 2, [1])
        house.read(0, 0, 4)
        self.assertEqual(house.cached(0), [(0, 1, "w"), (0, 0, "r"), (0, 1, "r")])
        house.attempt([])
        self.assertEqual(house.cached(0), [(0, 0, "r"), (0, 1, "r")])

    def test_forty_deeds(self):
        house = filled_house()
        self.assertEqual(house.attempt([("create_space",)] * 40), list(range(1, 41)))
        self.assertRaises(PagesError, house.attempt, [("create_space",)] * 39 + [("fork_space", 99)])
        self.assertEqual(len(house.spaces()), 41)


if __name__ == "__main__":
    unittest.main()
