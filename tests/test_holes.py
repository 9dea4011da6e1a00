"""Points 10 and 11: holes, and the mapped pages that stand in their way."""

import random
import unittest
from itertools import combinations

from lentpages.errors import LimitError, NoHole
from lentpages.holes import find_hole, hole_blockers
from lentpages.regions import Regions
from tests.plain import PlainMarks, do_deeds, fill_marks, outcome


def plain_hole(marks, length, least):
    """The lowest start of a hole, searched page by page, or None."""
    free = 0
    for page in range(least, len(marks)):
        free = free + 1 if marks[page] is None else 0
        if free == length:
            return page - length + 1
    return None


def plain_candidates(marks, length, least):
    """The starts of all candidates of point 11."""
    hole = plain_hole(marks, length, least)
    return [start for start in range(least, len(marks) - length + 1) if hole is None or start < hole]


def plain_blockers(marks, length, least):
    """The list of point 11, built by its rule."""
    blockers = []
    for start in plain_candidates(marks, length, least):
        if not any(start <= page < start + length for page in blockers):
            blockers.append(max([page for page in range(start, start + length) if marks[page]]))
    return blockers


def covers(pages, candidates, length):
    """Whether each candidate contains one of the pages."""
    return all([any([start <= page < start + length for page in pages]) for start in candidates])


def regions_of(marks):
    """A Regions object with mapped pages where the marks are not None."""
    regions = Regions(len(marks))
    for page, mark in enumerate(marks):
        if mark:
            regions.assign(page, page + 1, mark[0], file=mark[1], index=mark[2])
    return regions


def all_small_tables():
    """Regions objects and their marks, for all ways to map some of up to six pages."""
    for limit in range(1, 7):
        for number in range(2 ** limit):
            marks = [("r", "", 0) if number >> page & 1 else None for page in range(limit)]
            yield regions_of(marks), marks


def random_tables():
    """Regions objects and their marks, made by random deeds."""
    rng = random.Random(10)
    for limit in (7, 12, 20, 31):
        for deeds in (1, 2, 4, 8, 20):
            plain, done = fill_marks(rng, limit, deeds)
            yield do_deeds(Regions(limit), done), plain.marks


class FindHoleTest(unittest.TestCase):
    def check(self, regions, marks, length, least):
        wanted = plain_hole(marks, length, least)
        found = outcome(find_hole, regions, length, least=least)
        if wanted is None:
            self.assertEqual(found, ("raised", NoHole, {"length": length}))
        else:
            self.assertEqual(found, ("returned", wanted))

    def check_all(self, regions, marks):
        before = regions.as_list()
        for length in range(1, len(marks) + 2):
            self.assertEqual(outcome(find_hole, regions, length), outcome(find_hole, regions, length, least=0))
            for least in range(len(marks) + 4):
                self.check(regions, marks, length, least)
        self.assertEqual(regions.as_list(), before)

    def test_small_tables(self):
        for regions, marks in [*all_small_tables(), *random_tables()]:
            with self.subTest(marks=marks):
                self.check_all(regions, marks)

    def test_large_tables(self):
        rng = random.Random(11)
        for limit, deeds in ((1000, 30), (4096, 5), (4096, 200)):
            plain, done = fill_marks(rng, limit, deeds)
            regions = do_deeds(Regions(limit), done)
            lengths = [*range(1, 20), *rng.sample(range(20, limit), 20), limit - 1, limit, limit + 1]
            for length in lengths:
                for least in (0, 1, limit // 2, limit - 1, limit, limit + 5, *rng.sample(range(limit), 3)):
                    with self.subTest(limit=limit, length=length, least=least):
                        self.check(regions, plain.marks, length, least)

    def test_empty_and_full_tables(self):
        for limit in (1, 2, 150, 4096):
            regions = Regions(limit)
            self.assertEqual(find_hole(regions, limit), 0)
            self.assertEqual(find_hole(regions, 1, least=limit - 1), limit - 1)
            for length, least in ((limit + 1, 0), (limit, 1), (1, limit), (1, limit + 9)):
                with self.assertRaises(NoHole):
                    find_hole(regions, length, least=least)
            regions.assign(0, limit, "", file="data")
            for length in (1, 2, limit, limit + 1):
                with self.assertRaises(LimitError) as caught:
                    find_hole(regions, length)
                self.assertEqual(caught.exception.length, length)

    def test_long_runs_of_mapped_pages(self):
        regions = Regions(1000)
        regions.assign(3, 250, "r")
        regions.assign(254, 990, "r", file="data")
        self.assertEqual([find_hole(regions, length) for length in (1, 3, 4, 5, 10)], [0, 0, 250, 990, 990])
        self.assertEqual([find_hole(regions, 2, least=least) for least in (2, 252, 253)], [250, 252, 990])


class HoleBlockersTest(unittest.TestCase):
    def check_all(self, regions, marks):
        before = regions.as_list()
        for length in range(1, len(marks) + 2):
            self.assertEqual(hole_blockers(regions, length), plain_blockers(marks, length, 0))
            for least in range(len(marks) + 3):
                found = hole_blockers(regions, length, least=least)
                self.assertEqual(found, plain_blockers(marks, length, least))
        self.assertEqual(regions.as_list(), before)

    def test_small_tables(self):
        for regions, marks in [*all_small_tables(), *random_tables()]:
            with self.subTest(marks=marks):
                self.check_all(regions, marks)

    def test_large_tables(self):
        rng = random.Random(12)
        for limit, deeds in ((500, 20), (4096, 150)):
            plain, done = fill_marks(rng, limit, deeds)
            regions = do_deeds(Regions(limit), done)
            for length in (1, 2, 30, limit // 4, limit, limit + 1):
                for least in (0, limit // 3):
                    with self.subTest(limit=limit, length=length, least=least):
                        found = hole_blockers(regions, length, least=least)
                        self.check_large(found, plain.marks, length, least)

    def check_large(self, found, marks, length, least):
        """The rule of the document, from each blocker to the next one."""
        candidates = plain_candidates(marks, length, least)
        wanted = []
        start = least
        while candidates and start <= candidates[-1]:
            wanted.append(max([page for page in range(start, start + length) if marks[page]]))
            start = wanted[-1] + 1
        self.assertEqual(found, wanted)

    def test_no_shorter_list_has_a_page_in_every_candidate(self):
        for regions, marks in [*all_small_tables(), *random_tables()]:
            if len(marks) > 12:
                continue
            mapped = [page for page, mark in enumerate(marks) if mark]
            for length in range(1, len(marks) + 1):
                for least in (0, 1, 3):
                    found = hole_blockers(regions, length, least=least)
                    candidates = plain_candidates(marks, length, least)
                    self.assertEqual([page for page in found if page in mapped], found)
                    self.assertTrue(covers(found, candidates, length))
                    if found:
                        shorter = combinations(mapped, len(found) - 1)
                        self.assertFalse(any([covers(pages, candidates, length) for pages in shorter]))

    def test_the_example_of_the_document(self):
        regions = Regions(10)
        regions.assign(0, 5, "r")
        regions.assign(6, 8, "r")
        self.assertEqual(hole_blockers(regions, 2), [1, 3, 4, 6, 7])

    def test_no_candidates(self):
        empty = Regions(10)
        full = Regions(10)
        full.assign(0, 10, "r")
        self.assertEqual(hole_blockers(empty, 3), [])
        self.assertEqual(hole_blockers(empty, 11), [])
        self.assertEqual(hole_blockers(full, 11), [])
        self.assertEqual(hole_blockers(full, 3, least=8), [])
        self.assertEqual(hole_blockers(full, 1, least=15), [])
        self.assertEqual(hole_blockers(full, 3, least=7), [9])

    def test_each_list_is_new(self):
        regions = Regions(4)
        regions.assign(1, 3, "r")
        found = hole_blockers(regions, 2)
        self.assertEqual(found, [1, 2])
        found.append(9)
        self.assertEqual(hole_blockers(regions, 2), [1, 2])


class PlainTest(unittest.TestCase):
    def test_the_plain_search_is_that_of_the_document(self):
        plain = PlainMarks(5)
        plain.assign(1, 2, "r")
        self.assertEqual([plain_hole(plain.marks, 1, 0), plain_hole(plain.marks, 3, 0)], [0, 2])
        self.assertIsNone(plain_hole(plain.marks, 4, 0))
        self.assertIsNone(plain_hole(plain.marks, 3, 3))


if __name__ == "__main__":
    unittest.main()
