"""Points 47 to 56 and 63: what each deed of a house does, and its errors in the order in which they are named."""

import unittest

from lentpages.errors import (
    BadRange, BeyondFile, Denied, FileExists, FileInUse, NoFile, NoHole, NoRoom, NoSpace, Unmapped,
)
from lentpages.house import House
from tests.plain import outcome


def bad_range(start, end):
    return ("raised", BadRange, {"start": start, "end": end})


def room(needed, limit):
    return ("raised", NoRoom, {"needed": needed, "limit": limit})


def small_house(**more):
    """A house with a file of three pages and a space: pages 0 and 1 plain, page 2 read-only, 3 and 4 of the file."""
    house = House(**{"widths": (2, 4), "page_size": 3, **more})
    house.create_file("data", 3)
    house.create_space()
    house.map_plain(0, 0, 2, "rw")
    house.map_plain(0, 2, 1, "r")
    house.map_shared(0, 3, 2, "rw", "data", 1)
    return house


def fingerprint(house):
    """All that a house tells of spaces, files and stamps, its frames and caches included."""
    found = [house.spaces(), house.files(), house.stamps(), house.copies(), house.table_count(), house.walks()]
    found += [house.in_frames(), house.in_places(), [house.cached(hand) for hand in range(house.hands)], house.ledger()]
    for space in house.spaces():
        found.append(house.regions(space))
        found.append([outcome(house.stamp_at, space, page) for page in range(house.page_count)])
    found += [[house.file_stamp(name, page) for page in range(size)] for name, size in house.files()]
    return found


class ErrorsTest(unittest.TestCase):
    def check(self, house, rows):
        """Checks that each deed raises its error and changes nothing."""
        for name, args, more, wanted in rows:
            with self.subTest(name=name, args=args):
                before = fingerprint(house)
                self.assertEqual(outcome(getattr(house, name), *args, **more), wanted)
                self.assertEqual(fingerprint(house), before)

    def test_no_space_comes_first(self):
        wanted = ("raised", NoSpace, {"space": 7})
        rows = [
            ("fork_space", (), {}), ("delete_space", (), {}), ("unmap", (9, 0), {}), ("map_plain", (9, 0, "r"), {}),
            ("map_shared", (9, 0, "r", "none", 0), {}), ("map_private", (9, 0, "r", "none", 0), {}),
            ("protect", (9, 0, "r"), {}), ("regions", (), {}), ("find_hole", (99,), {}), ("walk", (-1,), {}),
            ("read", (-1, 1), {}), ("write", (-1, [1]), {}), ("check", (-1, 1), {"right": "w"}),
            ("growth", (-1, 1), {}),
            ("stamp_at", (-1,), {}), ("tell_apart", (0, 0, 0), {}), ("tell_apart", (-1, 9, -1), {}),
        ]
        self.check(small_house(), [(name, (7, *args), more, wanted) for name, args, more in rows])

    def test_mapping(self):
        for name, rest in (
            ("unmap", ()), ("map_plain", ("r",)), ("map_shared", ("r", "none", 0)), ("map_private", ("r", "none", 0)),
            ("protect", ("r",)),
        ):
            for start, length in ((0, 0), (3, -1), (-1, 2), (-1, 20), (8, 1), (7, 2), (0, 9), (9, -2)):
                wanted = bad_range(start, start + length)
                self.check(small_house(), [(name, (0, start, length, *rest), {}, wanted)])

    def test_mapping_files(self):
        house = small_house()
        for name in ("map_shared", "map_private"):
            self.check(house, [
                (name, (0, 0, 8, "r", "none", 0), {}, ("raised", NoFile, {"name": "none"})),
                (name, (0, 0, 4, "r", "data", 0), {}, ("raised", BeyondFile, {"name": "data", "index": 3})),
                (name, (0, 0, 1, "r", "data", 3), {}, ("raised", BeyondFile, {"name": "data", "index": 3})),
                (name, (0, 0, 2, "r", "data", 50), {}, ("raised", BeyondFile, {"name": "data", "index": 50})),
            ])

    def test_protect_and_questions(self):
        self.check(small_house(), [
            ("protect", (0, 4, 4, ""), {}, ("raised", Unmapped, {"page": 5})),
            ("protect", (0, 6, 2, ""), {}, ("raised", Unmapped, {"page": 6})),
            ("find_hole", (0, 4), {}, ("raised", NoHole, {"length": 4})),
            ("find_hole", (0, 2), {"least": 7}, ("raised", NoHole, {"length": 2})),
            ("walk", (0, 8), {}, bad_range(8, 9)),
            ("walk", (0, -1), {}, bad_range(-1, 0)),
        ])

    def test_files(self):
        in_use = ("raised", FileInUse, {"name": "data"})
        self.check(small_house(), [
            ("create_file", ("data", -1), {}, ("raised", FileExists, {"name": "data"})),
            ("create_file", ("new", -1), {}, bad_range(0, -1)),
            ("create_file", ("new", 9), {}, bad_range(0, 9)),
            ("copy_file", ("none", "data"), {}, ("raised", NoFile, {"name": "none"})),
            ("copy_file", ("data", "data"), {}, ("raised", FileExists, {"name": "data"})),
            ("resize_file", ("none", -1), {}, ("raised", NoFile, {"name": "none"})),
            ("resize_file", ("data", -1), {}, bad_range(0, -1)),
            ("resize_file", ("data", 9), {}, bad_range(0, 9)),
            ("delete_file", ("none",), {}, ("raised", NoFile, {"name": "none"})),
            ("delete_file", ("data",), {}, in_use),
        ])

    def test_a_file_is_in_use_beyond_its_end(self):
        house = small_house()
        house.resize_file("data", 0)
        self.check(house, [("delete_file", ("data",), {}, ("raised", FileInUse, {"name": "data"}))])
        house.unmap(0, 3, 1)
        self.check(house, [("delete_file", ("data",), {}, ("raised", FileInUse, {"name": "data"}))])
        house.unmap(0, 4, 1)
        house.delete_file("data")
        self.assertEqual(house.files(), [])

    def test_access(self):
        house = small_house()
        house.resize_file("data", 2)
        beyond = ("raised", BeyondFile, {"name": "data", "index": 2})
        denied = ("raised", Denied, {"page": 2, "right": "w"})
        self.check(house, [
            ("read", (0, -1, 2), {}, bad_range(-1, 1)),
            ("read", (0, 23, 2), {}, bad_range(23, 25)),
            ("read", (0, 25, 0), {}, bad_range(25, 25)),
            ("read", (0, -1, 0), {}, bad_range(-1, -1)),
            ("read", (0, 9, 7), {}, beyond),
            ("read", (0, 12, 4), {}, beyond),
            ("read", (0, 15, 3), {}, ("raised", Unmapped, {"page": 5})),
            ("read", (0, 0, 18), {"right": "x"}, ("raised", Denied, {"page": 0, "right": "x"})),
            ("write", (0, 0, [1] * 9), {}, denied),
            ("write", (0, 8, [1] * 9), {}, denied),
            ("write", (0, 23, [1, 2]), {}, bad_range(23, 25)),
            ("write", (0, 12, [1]), {}, beyond),
            ("check", (0, 8, 2), {"right": "w"}, denied),
            ("check", (0, 12, 1), {"right": "r"}, beyond),
            ("check", (0, 25, 0), {"right": "w"}, bad_range(25, 25)),
            ("growth", (0, 0, 9), {}, denied),
            ("growth", (0, 20, 5), {}, bad_range(20, 25)),
            ("read_file", ("none", -1, 1), {}, ("raised", NoFile, {"name": "none"})),
            ("read_file", ("data", -1, 1), {}, bad_range(-1, 0)),
            ("read_file", ("data", 5, 2), {}, bad_range(5, 7)),
            ("write_file", ("none", -1, [1]), {}, ("raised", NoFile, {"name": "none"})),
            ("write_file", ("data", 6, [1]), {}, bad_range(6, 7)),
            ("write_file", ("data", 7, []), {}, bad_range(7, 7)),
        ])

    def test_stamps(self):
        house = small_house()
        house.resize_file("data", 2)
        unmapped = ("raised", Unmapped, {"page": 5})
        beyond = ("raised", BeyondFile, {"name": "data", "index": 2})
        self.check(house, [
            ("stamp_at", (0, 8), {}, bad_range(8, 9)),
            ("stamp_at", (0, -1), {}, bad_range(-1, 0)),
            ("stamp_at", (0, 5), {}, unmapped),
            ("stamp_at", (0, 4), {}, beyond),
            ("file_stamp", ("none", -1), {}, ("raised", NoFile, {"name": "none"})),
            ("file_stamp", ("data", 2), {}, bad_range(2, 3)),
            ("file_stamp", ("data", -1), {}, bad_range(-1, 0)),
            # The second page is looked at after the first one, its space included.
            ("tell_apart", (0, 8, 7, 0), {}, bad_range(8, 9)),
            ("tell_apart", (0, 5, 7, 0), {}, unmapped),
            ("tell_apart", (0, 4, 7, 0), {}, beyond),
            ("tell_apart", (0, 0, 7, 8), {}, ("raised", NoSpace, {"space": 7})),
            ("tell_apart", (0, 0, 0, 8), {}, bad_range(8, 9)),
            ("tell_apart", (0, 0, 0, 5), {}, unmapped),
            ("tell_apart", (0, 0, 0, 4), {}, beyond),
        ])


class SpacesTest(unittest.TestCase):
    def test_the_defaults(self):
        house = House()
        self.assertEqual((house.page_size, house.page_count, house.frames, house.hands), (4, 16, 8, 1))
        self.assertEqual((len(house.sweep()), house.spaces(), house.files(), house.cached(0)), (8, [], [], []))
        house = House(widths=[2, 3], page_size=5, frames=2, places=0, blocks=2, hands=3, cache=0, chooser="clock")
        self.assertEqual((house.page_size, house.page_count, house.frames, house.hands), (5, 6, 2, 3))

    def test_the_lowest_free_number(self):
        house = House()
        self.assertEqual([house.create_space() for _ in range(4)], [0, 1, 2, 3])
        house.delete_space(2)
        house.delete_space(0)
        self.assertEqual((house.spaces(), house.fork_space(3), house.create_space()), ([1, 3], 0, 2))
        self.assertEqual(house.spaces(), [0, 1, 2, 3])

    def test_a_fork_is_copied_at_once(self):
        house = small_house()
        house.write(0, 0, [1, 2, 3, 4])
        house.write(0, 9, [5])
        child = house.fork_space(0)
        house.write(0, 0, [9])
        house.write(child, 3, [8])
        house.write(child, 9, [7])
        house.protect(child, 0, 1, "r")
        self.assertEqual((house.read(0, 0, 6), house.read(child, 0, 6)), ([9, 2, 3, 4, 0, 0], [1, 2, 3, 8, 0, 0]))
        # Pages of files are those of the file in both spaces.
        self.assertEqual((house.read(0, 9, 1), house.read_file("data", 3, 1)), ([7], [7]))
        self.assertEqual((house.regions(0)[0], house.regions(child)[0]), ((0, 2, "rw", "", 0), (0, 1, "r", "", 0)))
        house.delete_space(0)
        self.assertEqual((house.read(child, 0, 4), house.read_file("data", 0, 6)), ([1, 2, 3, 8], [0, 0, 0, 7, 0, 0]))

    def test_map_plain_gives_zeros(self):
        house = small_house()
        house.write(0, 0, [1, 2, 3, 4])
        house.map_plain(0, 1, 1, "rx")
        house.map_plain(0, 3, 1, "r")
        self.assertEqual((house.read(0, 0, 6), house.read(0, 9, 3)), ([1, 2, 3, 0, 0, 0], [0, 0, 0]))
        self.assertEqual([house.stamp_at(0, page) for page in (0, 1, 3)], [1, 0, 0])

    def test_shared_and_private(self):
        house = small_house()
        house.write_file("data", 2, [1, 2, 3, 4, 5])
        house.map_private(0, 5, 2, "rw", "data", 1)
        self.assertEqual((house.regions(0)[-1], house.read(0, 15, 6)), ((5, 7, "rw", "", 0), [2, 3, 4, 5, 0, 0]))
        house.write(0, 9, [20])
        house.write(0, 16, [30])
        self.assertEqual(house.read_file("data", 2, 5), [1, 20, 3, 4, 5])
        self.assertEqual((house.read(0, 9, 6), house.read(0, 15, 6)), ([20, 3, 4, 5, 0, 0], [2, 30, 4, 5, 0, 0]))

    def test_unmapping_does_not_touch_the_file(self):
        house = small_house()
        house.write(0, 9, [1, 2, 3])
        house.unmap(0, 2, 6)
        self.assertEqual((house.read_file("data", 3, 3), house.stamps()), ([1, 2, 3], [1]))
        self.assertEqual(house.regions(0), [(0, 2, "rw", "", 0)])
        self.assertEqual((house.find_hole(0, 6), house.walk(0, 7)), (2, (None, 1)))

    def test_a_page_of_a_file_twice(self):
        house = small_house()
        house.map_shared(0, 5, 2, "rw", "data", 0)
        house.map_shared(0, 7, 1, "rw", "data", 1)
        # Pages 6, 7 are both page 1 of the file, which is written twice; the second time counts.
        house.write(0, 18, [1, 2, 3, 4, 5])
        self.assertEqual((house.read_file("data", 3, 3), house.file_stamp("data", 1)), ([4, 5, 3], 2))
        self.assertEqual(house.tell_apart(0, 6, 0, 0), (2, 0))
        self.assertEqual((house.stamps(), house.copies(), house.holders(2)), ([2], 0, [("data", 1)]))

    def test_walk_and_find_hole(self):
        house = small_house()
        self.assertEqual(house.walk(0, 0), (("rw", "", 0), 2))
        self.assertEqual(house.walk(0, 4), (("rw", "data", 2), 2))
        self.assertEqual((house.find_hole(0, 1), house.find_hole(0, 2, least=6)), (5, 6))
        house.map_plain(0, 0, 4, "rw")
        self.assertEqual(house.walk(0, 3), (("rw", "", 0), 1))


class FilesTest(unittest.TestCase):
    def test_resize(self):
        house = small_house()
        house.write_file("data", 0, list(range(1, 10)))
        house.resize_file("data", 1)
        self.assertEqual((house.files(), house.read_file("data", 0, 3)), ([("data", 1)], [1, 2, 3]))
        house.resize_file("data", 8)
        self.assertEqual((house.files(), house.read_file("data", 0, 9)), ([("data", 8)], [1, 2, 3] + [0] * 6))
        house.resize_file("data", 8)
        self.assertEqual((house.read(0, 9, 3), house.stamps()), ([0, 0, 0], [1]))
        house.resize_file("data", 0)
        self.assertEqual((house.files(), house.read_file("data", 0, 0)), ([("data", 0)], []))

    def test_copies_of_files(self):
        house = small_house()
        house.write_file("data", 0, [1, 2, 3, 4])
        house.copy_file("data", "copy")
        house.write_file("data", 0, [9])
        house.write_file("copy", 3, [8])
        self.assertEqual((house.read_file("data", 0, 4), house.read_file("copy", 0, 4)), ([9, 2, 3, 4], [1, 2, 3, 8]))
        house.unmap(0, 3, 2)
        house.delete_file("data")
        self.assertEqual((house.files(), house.read_file("copy", 0, 4)), ([("copy", 3)], [1, 2, 3, 8]))
        house.create_file("data", 8)
        self.assertEqual((house.files(), house.read_file("data", 0, 3)), ([("copy", 3), ("data", 8)], [0, 0, 0]))

    def test_access_over_pages(self):
        house = small_house()
        house.write_file("data", 1, [1, 2, 3, 4, 5, 6, 7])
        self.assertEqual(house.read_file("data", 0, 9), [0, 1, 2, 3, 4, 5, 6, 7, 0])
        self.assertEqual([house.file_stamp("data", page) for page in range(3)], [1, 2, 3])
        house.write_file("data", 9, [])
        self.assertEqual((house.read_file("data", 9, 0), house.stamps()), ([], [1, 2, 3]))

    def test_empty_files(self):
        house = House()
        house.create_file("a", 0)
        self.assertEqual((house.files(), house.read_file("a", 0, 0)), ([("a", 0)], []))
        self.assertEqual(outcome(house.read_file, "a", 0, 1), bad_range(0, 1))


class AccessTest(unittest.TestCase):
    def test_each_right(self):
        house = House(widths=(8,), page_size=1)
        house.create_space()
        for page, rights in enumerate(("", "r", "w", "x", "rw", "rx", "wx", "rwx")):
            house.map_plain(0, page, 1, rights)
            for right in "rwx":
                wanted = ("returned", [0]) if right in rights else ("raised", Denied, {"page": page, "right": right})
                self.assertEqual(outcome(house.read, 0, page, 1, right=right), wanted)
                wanted = ("returned", None) if right in rights else wanted
                self.assertEqual(outcome(house.check, 0, page, 1, right=right), wanted)
            if "w" not in rights:
                self.assertEqual(outcome(house.write, 0, page, [1])[1], Denied)
        house.write(0, 4, [5])
        self.assertEqual(house.read(0, 4, 1), [5])

    def test_length_zero_looks_at_no_page(self):
        house = House(widths=(2,), page_size=2)
        house.create_space()
        for address in range(5):
            self.assertEqual((house.read(0, address, 0), house.write(0, address, [])), ([], None))
            self.assertEqual((house.check(0, address, 0, right="w"), house.growth(0, address, 0)), (None, 0))

    def test_the_lowest_page_decides(self):
        house = House(widths=(4,), page_size=2)
        house.create_space()
        house.create_file("a", 1)
        house.map_plain(0, 0, 1, "rw")
        house.map_shared(0, 1, 1, "rw", "a", 0)
        house.map_plain(0, 2, 1, "w")
        house.resize_file("a", 0)
        self.assertEqual(outcome(house.read, 0, 0, 8)[1], BeyondFile)
        house.map_plain(0, 1, 1, "rw")
        self.assertEqual(outcome(house.read, 0, 0, 8), ("raised", Denied, {"page": 2, "right": "r"}))
        self.assertEqual(outcome(house.write, 0, 0, [1] * 8), ("raised", Unmapped, {"page": 3}))
        self.assertEqual(house.stamps(), [])
        # The rights are looked at before the file.
        house.create_file("b", 1)
        house.map_shared(0, 1, 1, "r", "b", 0)
        house.resize_file("b", 0)
        self.assertEqual(outcome(house.write, 0, 2, [1]), ("raised", Denied, {"page": 1, "right": "w"}))

    def test_data_is_copied(self):
        house = House()
        house.create_space()
        house.map_plain(0, 0, 1, "rw")
        data = [1, 2]
        house.write(0, 0, data)
        data[0] = 9
        found = house.read(0, 0, 2)
        found[1] = 9
        self.assertEqual(house.read(0, 0, 4), [1, 2, 0, 0])
        house.regions(0).clear()
        house.spaces().clear()
        house.stamps().clear()
        self.assertEqual((house.regions(0), house.spaces(), house.stamps()), ([(0, 1, "rw", "", 0)], [0], [1]))


class StampsTest(unittest.TestCase):
    def test_a_write_over_pages(self):
        house = small_house()
        house.write(0, 2, [1, 2])
        house.write(0, 0, [1])
        self.assertEqual([house.stamp_at(0, page) for page in (0, 1, 2)], [3, 2, 0])
        self.assertEqual((house.stamps(), house.holders(3), house.holders(1)), ([2, 3], [(0, 0)], []))

    def test_unmapping_counts_the_pages_with_stamps(self):
        house = small_house()
        house.write(0, 0, [1] * 6)
        house.write(0, 9, [1])
        house.unmap(0, 0, 5)
        house.map_plain(0, 0, 1, "rw")
        house.write(0, 0, [1])
        # Changes 4 and 5 have dropped pages 0 and 1; the page of the file was not dropped.
        self.assertEqual((house.stamp_at(0, 0), house.stamps()), (6, [3, 6]))

    def test_resizing_counts_the_pages_with_stamps(self):
        house = small_house()
        house.write_file("data", 0, [1] * 9)
        house.resize_file("data", 1)
        house.resize_file("data", 3)
        house.write_file("data", 3, [1])
        self.assertEqual((house.file_stamp("data", 1), house.stamps()), (6, [1, 6]))

    def test_private_mappings(self):
        house = small_house()
        house.write(0, 0, [1] * 6)
        house.write_file("data", 0, [2] * 3)
        house.write_file("data", 6, [2] * 3)
        # The pages 0 and 1 are dropped by the changes 5 and 6, then two pages get stamps by the changes 7 and 8.
        house.map_private(0, 0, 3, "rw", "data", 0)
        self.assertEqual([house.stamp_at(0, page) for page in (0, 1, 2)], [3, 0, 4])
        self.assertEqual((house.holders(3), house.stamps()), ([(0, 0), ("data", 0)], [3, 4]))
        house.write(0, 0, [1])
        self.assertEqual((house.stamp_at(0, 0), house.copies()), (9, 1))

    def test_what_is_no_change(self):
        house = small_house()
        house.write(0, 0, [1])
        child = house.fork_space(0)
        house.copy_file("data", "copy")
        number = house.checkpoint()
        house.protect(0, 0, 1, "rw")
        house.delete_space(child)
        house.delete_file("copy")
        house.go_back(number)
        house.forget(number)
        house.write(0, 0, [1])
        self.assertEqual(house.stamp_at(0, 0), 2)

    def test_holders_of_spaces_come_first(self):
        house = House(widths=(4,))
        house.create_file("zz", 2)
        house.write_file("zz", 4, [1])
        house.copy_file("zz", "a")
        for _ in range(3):
            space = house.create_space()
            house.map_private(space, 3, 1, "r", "zz", 1)
            house.map_private(space, 0, 1, "r", "a", 1)
        house.delete_space(1)
        house.checkpoint()
        self.assertEqual(house.holders(1), [(0, 0), (0, 3), (2, 0), (2, 3), ("a", 1), ("zz", 1)])
        self.assertEqual((house.holders(0), house.holders(99)), ([], []))

    def test_tell_apart(self):
        house = small_house()
        self.assertIsNone(house.tell_apart(0, 0, 0, 3))
        house.write(0, 2, [1, 2])
        self.assertEqual((house.tell_apart(0, 0, 0, 1), house.tell_apart(0, 0, 0, 2)), ((2, 0), (1, 2)))
        child = house.fork_space(0)
        self.assertIsNone(house.tell_apart(0, 1, child, 1))
        house.write(child, 4, [3])
        self.assertEqual((house.tell_apart(0, 1, child, 1), house.tell_apart(child, 1, 0, 1)), ((3, 1), (3, 1)))

    def test_tables(self):
        house = small_house()
        self.assertEqual(house.table_count(), 0)
        house.write(0, 0, [1])
        self.assertEqual(house.table_count(), 2)
        child = house.fork_space(0)
        house.checkpoint()
        self.assertEqual(house.table_count(), 2)
        house.write(child, 3, [1])
        house.write_file("data", 0, [1])
        self.assertEqual(house.table_count(), 6)


class RoomTest(unittest.TestCase):
    def test_the_limit(self):
        for frames, places, limit in ((1, 0, 1), (1, 1, 1), (1, 2, 2), (3, 0, 3), (2, 4, 5)):
            house = House(widths=(8,), page_size=1, frames=frames, places=places)
            house.create_space()
            house.create_file("a", 8)
            house.map_plain(0, 0, 8, "rw")
            for count in range(1, 9):
                wanted = ("returned", None) if count <= limit else room(count, limit)
                self.assertEqual(outcome(house.check, 0, 0, count, right="w"), wanted)
                self.assertEqual(house.growth(0, 0, count), count)
                if count > limit:
                    self.assertEqual(outcome(house.write, 0, 0, [1] * count), wanted)
                    self.assertEqual(outcome(house.write_file, "a", 0, [1] * count), wanted)
            self.assertEqual((house.stamps(), house.copies()), ([], 0))
            house.write(0, 0, [1] * limit)
            self.assertEqual(outcome(house.write_file, "a", 0, [1]), room(limit + 1, limit))
            house.check(0, 0, 8, right="r")
            house.write(0, 0, [2] * limit)
            self.assertEqual(house.read(0, 0, 8), [2] * limit + [0] * (8 - limit))

    def test_other_errors_come_first(self):
        house = House(widths=(4,), page_size=1, frames=1, places=0)
        house.create_space()
        house.map_plain(0, 0, 2, "rw")
        self.assertEqual(outcome(house.write, 0, 0, [1, 2, 3]), ("raised", Unmapped, {"page": 2}))
        self.assertEqual(outcome(house.write, 0, 0, [1, 2]), room(2, 1))

    def test_growth(self):
        house = House(widths=(4,), page_size=1, frames=9)
        house.create_file("a", 4)
        house.create_space()
        house.map_plain(0, 0, 2, "rw")
        house.map_shared(0, 2, 1, "rw", "a", 0)
        house.map_shared(0, 3, 1, "rw", "a", 0)
        # Pages 2 and 3 are the same slot, so the second write to it is a renaming.
        self.assertEqual([house.growth(0, 0, length) for length in range(5)], [0, 1, 2, 3, 3])
        house.write(0, 0, [1] * 4)
        self.assertEqual(house.growth(0, 0, 4), 0)
        house.fork_space(0)
        self.assertEqual(house.growth(0, 0, 4), 2)
        house.map_private(0, 0, 1, "rw", "a", 0)
        house.map_private(0, 1, 1, "rw", "a", 0)
        # Of the three slots with one stamp the last one that is written keeps its content for itself.
        self.assertEqual((house.growth(0, 0, 3), house.growth(0, 0, 4), house.growth(0, 1, 1)), (2, 2, 1))
        stamps = len(house.stamps())
        house.write(0, 0, [2] * 4)
        self.assertEqual((len(house.stamps()), house.copies()), (stamps + 2, 2))

    def test_only_writes_need_room(self):
        house = House(widths=(4,), page_size=1, frames=1, places=0)
        house.create_space()
        house.create_file("a", 1)
        house.write_file("a", 0, [1])
        house.map_private(0, 0, 1, "rw", "a", 0)
        house.fork_space(0)
        house.copy_file("a", "b")
        house.checkpoint()
        self.assertEqual((house.stamps(), outcome(house.write, 0, 0, [2])), ([1], room(2, 1)))

    def test_the_first_example_of_the_document(self):
        house = House(widths=(4,), page_size=2, frames=1, places=3)
        space = house.create_space()
        house.map_plain(space, 0, 2, "rw")
        house.write(space, 1, [5, 6])
        child = house.fork_space(space)
        house.write(child, 1, [9])
        self.assertEqual((house.read(space, 0, 4), house.read(child, 0, 4)), ([0, 5, 6, 0], [0, 9, 6, 0]))
        self.assertEqual((house.stamps(), house.tell_apart(space, 0, child, 0)), ([1, 2, 3], (3, 1)))

    def test_the_second_example_of_the_document(self):
        house = House(widths=(4,), page_size=2, frames=1, places=2)
        space = house.create_space()
        house.map_plain(space, 0, 2, "rw")
        house.write(space, 1, [5, 6])
        child = house.fork_space(space)
        self.assertEqual(outcome(house.write, child, 1, [9]), room(3, 2))


if __name__ == "__main__":
    unittest.main()
