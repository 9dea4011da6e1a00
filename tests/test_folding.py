"""Points 12 and 13: folded tables."""

import random
import unittest
from math import prod

from lentpages.errors import BadRange
from lentpages.folding import FoldedTable
from lentpages.regions import Regions
from lentpages.shapes import Shape
from tests.plain import do_deeds, fill_marks, outcome, successor

# The last two have more levels than the limit of the document.
SHAPES = (
    [2], [8], [2, 2], [4, 3], [2, 3, 4], [5, 2, 2], [2, 2, 2, 2], [3, 8, 2, 5], [8, 8, 8, 8], [2] * 6, [2, 3, 2, 3, 2],
)


def is_uniform(marks):
    """Whether all pages are mapped and each but the first continues the page before it."""
    if None in marks:
        return False
    return all([later == successor(mark) for mark, later in zip(marks, marks[1:])])


def plain_table(marks, widths):
    """The table of these pages by the definition, as nested lists."""
    size = len(marks) // widths[0]
    table = []
    for start in range(0, len(marks), size):
        block = marks[start:start + size]
        if block == [None] * size:
            table.append(None)
        elif is_uniform(block):
            table.append(block[0])
        else:
            table.append(plain_table(block, widths[1:]))
    return table


def plain_entries(table, widths, start=0):
    """The marks in nested lists with their blocks."""
    size = prod(widths[1:])
    found = []
    for number, entry in enumerate(table):
        low = start + number * size
        if isinstance(entry, list):
            found.extend(plain_entries(entry, widths[1:], low))
        elif entry is not None:
            found.append((low, low + size) + entry)
    return found


def plain_visits(table, path):
    """The number of tables on the path, down to an entry that is no table."""
    entry = table[path[0]]
    return 1 + plain_visits(entry, path[1:]) if isinstance(entry, list) else 1


def plain_count(table):
    """The number of lists in nested lists."""
    return 1 + sum([plain_count(entry) for entry in table if isinstance(entry, list)])


def all_sizes(marks, widths):
    """The (marks, tables) of all tables that give these pages their marks."""
    size = len(marks) // widths[0]
    sizes = {(0, 1)}
    for start in range(0, len(marks), size):
        block = marks[start:start + size]
        choices = set()
        if block == [None] * size:
            choices.add((0, 0))
        if is_uniform(block):
            choices.add((1, 0))
        if len(widths) > 1:
            choices |= all_sizes(block, widths[1:])
        sizes = {(a + c, b + d) for a, b in sizes for c, d in choices}
    return sizes


def cases():
    """Shapes with Regions objects and their marks."""
    rng = random.Random(12)
    for widths in SHAPES:
        limit = prod(widths)
        counts = (0, 1, 2, 5, 12, 40) if limit < 1000 else (0, 3, 150)
        for deeds in counts:
            for _ in range(6 if limit < 50 else 1):
                plain, done = fill_marks(rng, limit, deeds)
                yield widths, do_deeds(Regions(limit), done), plain.marks


class DefinitionTest(unittest.TestCase):
    def test_the_tree_is_that_of_the_definition(self):
        for widths, regions, marks in cases():
            with self.subTest(widths=widths, regions=regions.as_list()):
                self.assertEqual(FoldedTable(Shape(widths), regions).tree(), plain_table(marks, widths))

    def test_entries_and_numbers_of_tables(self):
        for widths, regions, marks in cases():
            folded = FoldedTable(Shape(widths), regions)
            wanted = plain_table(marks, widths)
            with self.subTest(widths=widths):
                self.assertEqual(folded.entries(), plain_entries(wanted, widths))
                self.assertEqual(folded.entries(), sorted(folded.entries()))
                self.assertEqual(folded.table_count(), plain_count(wanted))

    def test_walks_of_all_pages(self):
        for widths, regions, marks in cases():
            shape = Shape(widths)
            folded = FoldedTable(shape, regions)
            tree = plain_table(marks, widths)
            with self.subTest(widths=widths):
                for page, mark in enumerate(marks):
                    walked = folded.walk(page)
                    self.assertEqual(walked, (mark, plain_visits(tree, shape.path(page))))
                    self.assertIsInstance(walked, tuple)

    def test_no_tables_have_fewer_marks_or_tables(self):
        for widths, regions, marks in cases():
            if len(marks) > 40:
                continue
            sizes = all_sizes(marks, widths)
            folded = FoldedTable(Shape(widths), regions)
            with self.subTest(widths=widths):
                self.assertEqual(len(folded.entries()), min([size[0] for size in sizes]))
                self.assertEqual(folded.table_count(), min([size[1] for size in sizes]))

    def test_walks_outside(self):
        for widths in SHAPES:
            count = prod(widths)
            regions = Regions(count)
            regions.assign(0, count, "r", file="data")
            folded = FoldedTable(Shape(widths), regions)
            for page in (-1, -2, -count, count, count + 1, 3 * count):
                with self.subTest(widths=widths, page=page):
                    wanted = ("raised", BadRange, {"start": page, "end": page + 1})
                    self.assertEqual(outcome(folded.walk, page), wanted)


class ExampleTest(unittest.TestCase):
    def test_the_example_of_the_document(self):
        regions = Regions(6)
        regions.assign(0, 3, "rw")
        regions.assign(4, 5, "r")
        folded = FoldedTable(Shape([2, 3]), regions)
        self.assertEqual(folded.tree(), [("rw", "", 0), [None, ("r", "", 0), None]])
        self.assertEqual(folded.entries(), [(0, 3, "rw", "", 0), (4, 5, "r", "", 0)])
        self.assertEqual(folded.table_count(), 2)
        self.assertEqual([folded.walk(2), folded.walk(3), folded.walk(4)],
                         [(("rw", "", 0), 1), (None, 2), (("r", "", 0), 2)])

    def test_empty_and_full_tables(self):
        shape = Shape([2, 2, 2])
        regions = Regions(8)
        empty = FoldedTable(shape, regions)
        self.assertEqual((empty.tree(), empty.entries(), empty.table_count()), ([None, None], [], 1))
        self.assertEqual(empty.walk(7), (None, 1))
        regions.assign(0, 8, "")
        full = FoldedTable(shape, regions)
        self.assertEqual((full.tree(), full.table_count()), ([("", "", 0), ("", "", 0)], 1))
        regions.assign(0, 8, "x", file="data", index=3)
        full = FoldedTable(shape, regions)
        self.assertEqual((full.tree(), full.table_count()), ([("x", "data", 3), ("x", "data", 7)], 1))

    def test_entries_are_not_joined(self):
        regions = Regions(4)
        regions.assign(0, 4, "r")
        wanted = [(0, 2, "r", "", 0), (2, 4, "r", "", 0)]
        self.assertEqual(FoldedTable(Shape([2, 2]), regions).entries(), wanted)

    def test_a_region_that_goes_on_beyond_a_block(self):
        regions = Regions(8)
        regions.assign(1, 7, "r", file="data", index=20)
        folded = FoldedTable(Shape([2, 2, 2]), regions)
        wanted = [[[None, ("r", "data", 20)], ("r", "data", 21)], [("r", "data", 23), [("r", "data", 25), None]]]
        self.assertEqual(folded.tree(), wanted)
        self.assertEqual(folded.table_count(), 5)

    def test_marks_in_the_middle_of_a_block_of_a_file(self):
        regions = Regions(12)
        regions.assign(4, 12, "rw", file="data", index=100)
        folded = FoldedTable(Shape([3, 2, 2]), regions)
        self.assertEqual(folded.tree(), [None, ("rw", "data", 100), ("rw", "data", 104)])
        self.assertEqual([folded.walk(page) for page in (6, 7, 8, 11)],
                         [(("rw", "data", 100 + k), 1) for k in (2, 3, 4, 7)])

    def test_neighbours_of_a_file_that_do_not_continue_each_other(self):
        regions = Regions(4)
        regions.assign(0, 2, "r", file="data")
        regions.assign(2, 3, "r", file="data", index=5)
        regions.assign(3, 4, "r", file="data", index=5)
        wanted = [("r", "data", 0), [("r", "data", 5), ("r", "data", 5)]]
        self.assertEqual(FoldedTable(Shape([2, 2]), regions).tree(), wanted)


class CopyTest(unittest.TestCase):
    def setUp(self):
        self.regions = Regions(6)
        self.regions.assign(1, 5, "r")
        self.folded = FoldedTable(Shape([2, 3]), self.regions)
        self.wanted = [[None, ("r", "", 0), ("r", "", 0)], [("r", "", 0), ("r", "", 0), None]]

    def test_later_changes_of_the_regions(self):
        self.regions.unassign(0, 3)
        self.regions.protect(3, 5, "rwx")
        self.assertEqual(self.folded.tree(), self.wanted)
        self.assertEqual(self.folded.walk(1), (("r", "", 0), 2))
        self.assertEqual(self.folded.entries()[0], (1, 2, "r", "", 0))

    def test_the_regions_stay_as_they_are(self):
        self.assertEqual(self.regions.as_list(), [(1, 5, "r", "", 0)])

    def test_lists_are_new(self):
        tree = self.folded.tree()
        tree[0][0] = "gone"
        tree[1].append("more")
        tree.append("more")
        self.folded.entries().append("more")
        self.assertEqual(self.folded.tree(), self.wanted)
        self.assertEqual(self.folded.walk(0), (None, 2))
        self.assertEqual(len(self.folded.entries()), 4)
        self.assertEqual(self.folded.table_count(), 3)


if __name__ == "__main__":
    unittest.main()
