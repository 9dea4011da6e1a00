"""Folded tables: the marks of a space in tables that end where a block is uniform."""

from lentpages.marks import clip, mark_after


class FoldedTable:
    """A snapshot of the marks of a Regions object, in tables of a shape."""

    def __init__(self, shape, regions):
        self._shape = shape
        self._root = _fold(shape, 0, 0, regions.as_list())

    def walk(self, page):
        """The mark of the page or None, and the number of tables that lead to it."""
        path = self._shape.path(page)
        level = 0
        entry = self._root[path[0]]
        while isinstance(entry, list):
            level += 1
            entry = entry[path[level]]
        if entry is None:
            return (None, level + 1)
        start, _ = self._shape.block_at(level, page)
        return (mark_after(entry, page - start), level + 1)

    def entries(self):
        """The blocks whose entries are marks, each with its mark, in ascending order."""
        return _marks_in(self._shape, self._root, 0, 0)

    def table_count(self):
        """The number of tables, including the root table."""
        return _count_tables(self._root)

    def tree(self):
        """The tables as nested lists."""
        return _copy_table(self._root)


def _fold(shape, level, start, regions):
    """The table of the level that begins at start; the regions are those of its pages."""
    span = shape.span(level)
    table = []
    for number in range(shape.widths[level]):
        low = start + number * span
        table.append(_fold_block(shape, level, low, clip(regions, low, low + span)))
    return table


def _fold_block(shape, level, start, regions):
    """The entry of the block of the level that begins at start; the regions are those of its pages."""
    if not regions:
        return None
    if regions[0][:2] == (start, start + shape.span(level)):
        return regions[0][2:]
    return _fold(shape, level + 1, start, regions)


def _marks_in(shape, table, level, start):
    """The blocks with marks in the table of the level that begins at start."""
    span = shape.span(level)
    found = []
    for number, entry in enumerate(table):
        low = start + number * span
        if isinstance(entry, list):
            found.extend(_marks_in(shape, entry, level + 1, low))
        elif entry is not None:
            found.append((low, low + span) + entry)
    return found


def _count_tables(table):
    """The number of tables in the table, itself included."""
    return 1 + sum([_count_tables(entry) for entry in table if isinstance(entry, list)])


def _copy_table(table):
    """The table with new lists, down to the last level."""
    return [_copy_table(entry) if isinstance(entry, list) else entry for entry in table]
