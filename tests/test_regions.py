"""Points 7 to 9: marks, regions, and what changes them."""

import random
import unittest

from lentpages.errors import BadRange, Unmapped
from lentpages.regions import Regions
from tests.plain import RIGHTS, PlainMarks, outcome, random_deed


class PlainTableTest(unittest.TestCase):
    """Random deeds on a Regions object and on a plain table."""

    def compare(self, regions, plain):
        self.assertEqual(regions.as_list(), plain.runs())
        self.assertEqual(list(regions), plain.runs())
        self.assertEqual(regions.mapped_count(), sum(mark is not None for mark in plain.marks))

    def compare_pages(self, regions, plain):
        self.assertEqual([regions.mark_at(page) for page in range(plain.limit)], plain.marks)
        found = [page in regions for page in range(plain.limit)]
        self.assertEqual(found, [mark is not None for mark in plain.marks])
        for page in (-1, -2, -plain.limit, plain.limit, plain.limit + 1):
            self.assertIsNone(regions.mark_at(page))
            self.assertIs(page in regions, False)

    def check_limit(self, limit, deeds):
        rng = random.Random(limit)
        regions = Regions(limit)
        plain = PlainMarks(limit)
        self.compare_pages(regions, plain)
        for count in range(deeds):
            name, args, more = random_deed(rng, limit)
            wanted = outcome(getattr(plain, name), *args, **more)
            self.assertEqual(outcome(getattr(regions, name), *args, **more), wanted)
            self.compare(regions, plain)
            if limit < 60 or count % 50 == 0:
                self.compare_pages(regions, plain)
        self.compare_pages(regions, plain)

    def test_small_limits(self):
        for limit in (1, 2, 3, 4, 5, 7, 10, 16, 33):
            with self.subTest(limit=limit):
                self.check_limit(limit, 400)

    def test_large_limits(self):
        for limit in (100, 1000, 4096):
            with self.subTest(limit=limit):
                self.check_limit(limit, 250)

    def test_several_hundred_regions(self):
        limit = 4096
        regions = Regions(limit)
        plain = PlainMarks(limit)
        for start in range(0, limit, 5):
            more = {"file": "data", "index": start} if start % 2 else {}
            for table in (regions, plain):
                table.assign(start, min(start + 1 + start % 4, limit), RIGHTS[start % 8], **more)
        self.assertGreater(len(regions.as_list()), 700)
        self.compare(regions, plain)
        self.compare_pages(regions, plain)
        for table in (regions, plain):
            table.unassign(1000, 3001)
            table.assign(900, 3900, "rw", file="other")
            table.protect(1500, 1600, "")
        self.compare(regions, plain)
        self.compare_pages(regions, plain)


class AssignTest(unittest.TestCase):
    def test_the_example_of_the_document(self):
        regions = Regions(10)
        regions.assign(0, 3, "r")
        regions.assign(3, 6, "r", file="data", index=4)
        regions.assign(5, 8, "r", file="data", index=6)
        self.assertEqual(regions.as_list(), [(0, 3, "r", "", 0), (3, 8, "r", "data", 4)])

    def test_all_rights(self):
        for rights in RIGHTS:
            regions = Regions(4)
            regions.assign(1, 3, rights)
            self.assertEqual(regions.as_list(), [(1, 3, rights, "", 0)])
            self.assertEqual(regions.mark_at(1), (rights, "", 0))
            self.assertIn(1, regions)
            regions.assign(0, 4, rights, file="abc", index=9)
            self.assertEqual(regions.as_list(), [(0, 4, rights, "abc", 9)])
            self.assertEqual(regions.mark_at(3), (rights, "abc", 12))

    def test_plain_memory_has_the_index_0(self):
        regions = Regions(6)
        regions.assign(0, 2, "r", index=7)
        regions.assign(2, 4, "r", file="", index=100)
        regions.assign(4, 6, "r", file="")
        self.assertEqual(regions.as_list(), [(0, 6, "r", "", 0)])

    def test_the_index_may_be_left_out(self):
        regions = Regions(6)
        regions.assign(2, 5, "r", file="data")
        self.assertEqual(regions.as_list(), [(2, 5, "r", "data", 0)])

    def test_neighbours_that_do_not_continue_each_other(self):
        for mark in (("rw", "data", 2), ("r", "other", 2), ("r", "data", 3), ("r", "data", 1), ("r", "", 0)):
            regions = Regions(4)
            regions.assign(0, 2, "r", file="data")
            regions.assign(2, 4, mark[0], file=mark[1], index=mark[2])
            self.assertEqual(regions.as_list(), [(0, 2, "r", "data", 0), (2, 4) + mark])

    def test_neighbours_with_a_gap_are_not_joined(self):
        regions = Regions(5)
        regions.assign(0, 2, "r")
        regions.assign(3, 5, "r")
        self.assertEqual(regions.as_list(), [(0, 2, "r", "", 0), (3, 5, "r", "", 0)])
        regions.assign(2, 3, "r")
        self.assertEqual(regions.as_list(), [(0, 5, "r", "", 0)])

    def test_neighbours_on_both_sides_are_joined(self):
        regions = Regions(9)
        regions.assign(0, 3, "r", file="data", index=10)
        regions.assign(6, 9, "r", file="data", index=16)
        regions.assign(3, 6, "r", file="data", index=13)
        self.assertEqual(regions.as_list(), [(0, 9, "r", "data", 10)])

    def test_a_region_that_is_cut_keeps_its_indexes(self):
        regions = Regions(10)
        regions.assign(0, 10, "r", file="data", index=5)
        regions.assign(3, 5, "r")
        regions.unassign(7, 8)
        wanted = [(0, 3, "r", "data", 5), (3, 5, "r", "", 0), (5, 7, "r", "data", 10), (8, 10, "r", "data", 13)]
        self.assertEqual(regions.as_list(), wanted)

    def test_protect_parts_and_joins(self):
        regions = Regions(8)
        regions.assign(0, 4, "r", file="data")
        regions.assign(4, 8, "rw", file="data", index=4)
        regions.protect(2, 4, "rw")
        self.assertEqual(regions.as_list(), [(0, 2, "r", "data", 0), (2, 8, "rw", "data", 2)])
        regions.protect(0, 8, "")
        self.assertEqual(regions.as_list(), [(0, 8, "", "data", 0)])

    def test_deeds_return_none(self):
        regions = Regions(3)
        self.assertIsNone(regions.assign(0, 3, "r"))
        self.assertIsNone(regions.protect(0, 3, "w"))
        self.assertIsNone(regions.unassign(0, 3))

    def test_unassign_of_unmapped_pages(self):
        regions = Regions(5)
        regions.unassign(0, 5)
        regions.assign(2, 3, "r")
        regions.unassign(0, 5)
        self.assertEqual(regions.as_list(), [])


class WrongInputTest(unittest.TestCase):
    def setUp(self):
        self.regions = Regions(10)
        self.regions.assign(2, 5, "r", file="data")
        self.regions.assign(6, 8, "rw")
        self.before = self.regions.as_list()

    def test_wrong_ranges(self):
        for start, end in ((0, 0), (10, 10), (3, 3), (5, 4), (9, 0), (-1, 3), (-3, -1), (9, 11), (10, 11), (-1, 11)):
            wanted = ("raised", BadRange, {"start": start, "end": end})
            for deed, more in (("assign", ("r",)), ("unassign", ()), ("protect", ("r",))):
                with self.subTest(start=start, end=end, deed=deed):
                    self.assertEqual(outcome(getattr(self.regions, deed), start, end, *more), wanted)
                    self.assertEqual(self.regions.as_list(), self.before)

    def test_unmapped_pages(self):
        for start, end, page in ((0, 10, 0), (1, 4, 1), (2, 8, 5), (2, 6, 5), (5, 6, 5), (6, 10, 8), (7, 9, 8)):
            with self.subTest(start=start, end=end):
                wanted = ("raised", Unmapped, {"page": page})
                self.assertEqual(outcome(self.regions.protect, start, end, "x"), wanted)
                self.assertEqual(self.regions.as_list(), self.before)

    def test_a_wrong_range_comes_before_an_unmapped_page(self):
        wanted = ("raised", BadRange, {"start": 8, "end": 11})
        self.assertEqual(outcome(self.regions.protect, 8, 11, "r"), wanted)
        self.assertEqual(outcome(Regions(3).protect, 1, 1, "r"), ("raised", BadRange, {"start": 1, "end": 1}))


class CopyTest(unittest.TestCase):
    def test_the_limit_is_an_attribute(self):
        self.assertEqual(Regions(77).limit, 77)
        self.assertEqual(Regions(77).clone().limit, 77)

    def test_lists_are_new(self):
        regions = Regions(4)
        regions.assign(0, 2, "r")
        rows = regions.as_list()
        self.assertIsInstance(rows, list)
        self.assertIsInstance(rows[0], tuple)
        rows.append((3, 4, "r", "", 0))
        rows[0] = None
        self.assertEqual(regions.as_list(), [(0, 2, "r", "", 0)])
        self.assertEqual(list(regions), [(0, 2, "r", "", 0)])

    def test_a_list_does_not_see_later_changes(self):
        regions = Regions(4)
        regions.assign(0, 2, "r")
        rows = regions.as_list()
        regions.unassign(0, 4)
        self.assertEqual(rows, [(0, 2, "r", "", 0)])

    def test_clones_and_originals_do_not_see_each_other(self):
        first = Regions(6)
        first.assign(0, 4, "r", file="data", index=2)
        second = first.clone()
        self.assertIsInstance(second, Regions)
        self.assertEqual(second.as_list(), first.as_list())
        first.unassign(1, 2)
        second.protect(0, 1, "rw")
        third = second.clone()
        third.assign(0, 6, "x")
        self.assertEqual(first.as_list(), [(0, 1, "r", "data", 2), (2, 4, "r", "data", 4)])
        self.assertEqual(second.as_list(), [(0, 1, "rw", "data", 2), (1, 4, "r", "data", 3)])
        self.assertEqual(third.as_list(), [(0, 6, "x", "", 0)])

    def test_a_loop_may_change_the_object(self):
        regions = Regions(9)
        for start in (0, 3, 6):
            regions.assign(start, start + 2, "r")
        seen = []
        for start, end, *_ in regions:
            seen.append(start)
            regions.unassign(start, end)
        self.assertEqual((seen, regions.as_list()), ([0, 3, 6], []))

    def test_two_loops_at_once(self):
        regions = Regions(9)
        for start in (0, 3, 6):
            regions.assign(start, start + 2, "r")
        pairs = [(a[0], b[0]) for a in regions for b in regions]
        self.assertEqual(pairs, [(a, b) for a in (0, 3, 6) for b in (0, 3, 6)])


if __name__ == "__main__":
    unittest.main()
