"""Books: the stamps of pages, and the tables that lead to them."""


class Book:
    """The stamps of the pages of one book, and the numbers of its tables."""

    def __init__(self, shape):
        self._shape = shape
        self._stamps = {}
        # A table is known by its level and first page. Both dicts contain the tables that exist.
        self._numbers = {}
        self._leaf_counts = {}

    def twin(self):
        """An independent book with the same stamps and numbers."""
        other = Book(self._shape)
        other._stamps = dict(self._stamps)
        other._numbers = {key: self._numbers[key] for key in self._numbers}
        other._leaf_counts = {key: self._leaf_counts[key] for key in self._leaf_counts}
        return other

    def refill(self, tables, leaves):
        """Gives an empty book the tables and leaves that another book had."""
        for page, stamp in leaves:
            self.give(page, stamp, 0)
        for level, first, number in tables:
            self._numbers[(level, first)] = number

    def give(self, page, stamp, number):
        """Gives the page a stamp, or none with stamp 0, as the change of this number."""
        more = int(stamp != 0) - int(page in self._stamps)
        if stamp != 0:
            self._stamps[page] = stamp
        else:
            self._stamps.pop(page, None)
        for level in range(self._shape.levels):
            self._change_table(self._key(level, page), more, number)

    def stamp_of(self, page):
        """The stamp of the page, 0 for none."""
        return self._stamps.get(page, 0)

    def leaves(self):
        """The pairs (page, stamp) of the pages with stamps, in ascending order."""
        return sorted(self._stamps.items())

    def tables(self):
        """The tables (level, first page, number) in ascending order."""
        return sorted([(level, first, number) for (level, first), number in self._numbers.items()])

    def table_number(self, level, page):
        """The number of the table of the level on the path of the page, 0 if there is none."""
        return self._numbers.get(self._key(level, page), 0)

    def _key(self, level, page):
        """The level and first page of the table of the level on the path of the page."""
        if level == 0:
            return (0, 0)
        start, _ = self._shape.block_at(level - 1, page)
        return (level, start)

    def _change_table(self, key, more, number):
        """Notes in a table that a page below it changed, and how many more pages there have a stamp."""
        count = self._leaf_counts.get(key, 0) + more
        if count == 0:
            self._numbers.pop(key, None)
            self._leaf_counts.pop(key, None)
        else:
            self._numbers[key] = number
            self._leaf_counts[key] = count
