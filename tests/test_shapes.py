"""Points 4 to 6: shapes, paths, blocks and covers."""

import random
import unittest
from math import prod

from lentpages.errors import AccessError, BadRange
from lentpages.shapes import Shape, cover
from tests.plain import outcome

# The last three go beyond the limits of the document.
SHAPES = (
    [2], [8], [2, 2], [3, 5], [8, 2], [2, 3, 4], [7, 5, 3], [8, 8, 8], [2, 2, 2, 2], [2, 8, 3, 5], [8, 8, 8, 8],
    [2, 3, 2, 3, 2], [2] * 10, [9, 12],
)


def plain_blocks(widths):
    """All blocks, as (level, start, end), found by cutting the blocks of the level before."""
    blocks = []
    whole = [(0, prod(widths))]
    for level, width in enumerate(widths):
        parts = []
        for start, end in whole:
            size = (end - start) // width
            parts.extend([(start + k * size, start + (k + 1) * size) for k in range(width)])
        blocks.extend([(level, start, end) for start, end in parts])
        whole = parts
    return blocks


def plain_cover(blocks, start, end):
    """The blocks in the range that are not part of a larger block in the range."""
    inside = [(low, high) for _, low, high in blocks if start <= low and high <= end]
    return sorted(
        (low, high) for low, high in inside
        if not any(a <= low and high <= b and b - a > high - low for a, b in inside)
    )


def fewest_blocks(blocks, start, end):
    """The length of the shortest list of blocks that together are the range."""
    fewest = {start: 0}
    for page in range(start, end):
        if page in fewest:
            for _, low, high in blocks:
                if low == page and high <= end:
                    fewest[high] = min(fewest.get(high, end), fewest[page] + 1)
    return fewest[end]


class ShapeTest(unittest.TestCase):
    def test_levels_page_count_and_spans(self):
        for widths in SHAPES:
            shape = Shape(widths)
            with self.subTest(widths=widths):
                self.assertEqual(shape.levels, len(widths))
                self.assertEqual(shape.page_count, prod(widths))
                for level in range(shape.levels):
                    self.assertEqual(shape.span(level), prod(widths[level + 1:]))
                self.assertEqual(shape.span(shape.levels - 1), 1)

    def test_widths_are_a_tuple_of_their_own(self):
        widths = [2, 3, 4]
        shape = Shape(widths)
        widths[0] = 8
        widths.append(5)
        self.assertEqual(shape.widths, (2, 3, 4))
        self.assertIsInstance(shape.widths, tuple)
        self.assertEqual((shape.levels, shape.page_count, shape.span(0)), (3, 24, 12))
        self.assertEqual(shape.path(23), (1, 2, 3))
        self.assertEqual(Shape((2, 3)).widths, (2, 3))

    def test_the_list_of_widths_stays_as_it_is(self):
        widths = [2, 3]
        shape = Shape(widths)
        shape.path(4)
        cover(shape, 1, 6)
        self.assertEqual(widths, [2, 3])

    def test_paths_lead_to_pages_and_back(self):
        for widths in SHAPES:
            shape = Shape(widths)
            with self.subTest(widths=widths):
                for page in range(shape.page_count):
                    path = shape.path(page)
                    self.assertIsInstance(path, tuple)
                    wanted = tuple(page // prod(widths[k + 1:]) % widths[k] for k in range(len(widths)))
                    self.assertEqual(path, wanted)
                    self.assertEqual(shape.page_at(path), page)

    def test_blocks_of_each_level(self):
        for widths in SHAPES:
            shape = Shape(widths)
            with self.subTest(widths=widths):
                for level, start, end in plain_blocks(widths):
                    for page in {start, (start + end) // 2, end - 1}:
                        block = shape.block_at(level, page)
                        self.assertIsInstance(block, tuple)
                        self.assertEqual(block, (start, end))

    def test_pages_outside_of_the_shape(self):
        for widths in SHAPES:
            shape = Shape(widths)
            count = shape.page_count
            for page in (-1, -2, -count, count, count + 1, 10 * count):
                with self.subTest(widths=widths, page=page):
                    wanted = ("raised", BadRange, {"start": page, "end": page + 1})
                    self.assertEqual(outcome(shape.path, page), wanted)
                    for level in range(shape.levels):
                        self.assertEqual(outcome(shape.block_at, level, page), wanted)


class CoverTest(unittest.TestCase):
    def test_all_ranges_of_small_shapes(self):
        for widths in ([2], [5], [2, 2], [3, 4], [4, 3], [2, 2, 2], [2, 3, 4], [2, 2, 2, 2]):
            shape = Shape(widths)
            blocks = plain_blocks(widths)
            for start in range(shape.page_count):
                for end in range(start + 1, shape.page_count + 1):
                    with self.subTest(widths=widths, start=start, end=end):
                        found = cover(shape, start, end)
                        self.assertEqual(found, plain_cover(blocks, start, end))
                        self.assertEqual(len(found), fewest_blocks(blocks, start, end))

    def test_large_shapes(self):
        rng = random.Random(6)
        for widths in ([8, 8, 8, 8], [2, 8, 3, 5], [2] * 10, [8, 8, 8, 2, 3]):
            shape = Shape(widths)
            blocks = plain_blocks(widths)
            count = shape.page_count
            ranges = [(0, count), (1, count), (0, count - 1), (1, count - 1), (0, 1), (count - 1, count)]
            ranges.extend([tuple(sorted(rng.sample(range(count + 1), 2))) for _ in range(10)])
            for start, end in ranges:
                with self.subTest(widths=widths, start=start, end=end):
                    found = cover(shape, start, end)
                    self.assertEqual([a for a, _ in found], [start] + [b for _, b in found[:-1]])
                    self.assertEqual(found[-1][1], end)
                    self.assertEqual(found, self.largest_blocks(blocks, start, end))

    def largest_blocks(self, blocks, start, end):
        """The cover, level by level: blocks in the range whose pages no larger block has taken."""
        taken = set()
        found = []
        for _, low, high in blocks:
            if start <= low and high <= end and low not in taken:
                taken.update(range(low, high))
                found.append((low, high))
        return sorted(found)

    def test_the_whole_shape_consists_of_the_blocks_of_the_root(self):
        shape = Shape([3, 4])
        self.assertEqual(cover(shape, 0, 12), [(0, 4), (4, 8), (8, 12)])
        self.assertEqual(cover(shape, 5, 6), [(5, 6)])

    def test_pairs_in_a_new_list(self):
        shape = Shape([2, 2])
        found = cover(shape, 1, 4)
        self.assertEqual(found, [(1, 2), (2, 4)])
        self.assertEqual([pair.__class__ for pair in found], [tuple, tuple])
        found.append((9, 9))
        self.assertEqual(cover(shape, 1, 4), [(1, 2), (2, 4)])

    def test_wrong_ranges(self):
        shape = Shape([2, 3])
        for start, end in ((0, 0), (3, 3), (6, 6), (4, 3), (6, 0), (-1, 2), (-2, -1), (0, 7), (6, 7), (-1, 7)):
            with self.subTest(start=start, end=end):
                wanted = ("raised", BadRange, {"start": start, "end": end})
                self.assertEqual(outcome(cover, shape, start, end), wanted)
        with self.assertRaises(AccessError):
            cover(shape, 2, 2)


if __name__ == "__main__":
    unittest.main()
