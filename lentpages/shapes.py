"""Shapes: tables of several levels, and the blocks that their entries stand for."""

from lentpages.ranges import check_range


class Shape:
    """Tables of several levels, from the root table of level 0 down to single pages."""

    def __init__(self, widths):
        self.widths = tuple(widths)
        self.levels = len(self.widths)
        self._spans = _spans_of(self.widths)
        self.page_count = self.widths[0] * self._spans[0]

    def span(self, level):
        """The number of pages that one entry of a table of the level stands for."""
        return self._spans[level]

    def path(self, page):
        """The numbers of the entries that lead to the page, one for each level."""
        check_range(page, page + 1, self.page_count)
        return tuple([page // span % width for span, width in zip(self._spans, self.widths)])

    def page_at(self, path):
        """The page whose path this is."""
        return sum([number * span for number, span in zip(path, self._spans)])

    def block_at(self, level, page):
        """The block of the level that contains the page."""
        check_range(page, page + 1, self.page_count)
        span = self.span(level)
        start = page // span * span
        return (start, start + span)


def cover(shape, start, end):
    """The largest blocks that lie in the range, in ascending order."""
    check_range(start, end, shape.page_count)
    blocks = []
    while start < end:
        block = _largest_block(shape, start, end)
        blocks.append(block)
        start = block[1]
    return blocks


def _largest_block(shape, start, end):
    """The largest block that begins at start and does not go beyond end."""
    level = 0
    block = shape.block_at(level, start)
    # The search ends at the last level, whose blocks are single pages.
    while block[0] < start or block[1] > end:
        level += 1
        block = shape.block_at(level, start)
    return block


def _spans_of(widths):
    """The span of each level: the product of the widths of all later levels."""
    spans = [1]
    for width in reversed(widths[1:]):
        spans.append(spans[-1] * width)
    return tuple(spans[::-1])
