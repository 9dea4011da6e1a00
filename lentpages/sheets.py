"""Sheets: the small memory of a crew, in which pages of several spaces may refer to one value."""


class Sheets:
    """Spaces whose mapped pages have rights and refer to a sheet, which holds a value."""

    def __init__(self):
        # A space leads from its mapped pages to pairs (rights, sheet).
        self._spaces = [{}]
        # The values of all sheets, and how many pages refer to each. A sheet stays when no page refers to it.
        self._values = []
        self._counts = []

    def has_space(self, space):
        """Whether there is such a space."""
        return 0 <= space < len(self._spaces)

    def rights_of(self, space, page):
        """The rights of the page of a space that exists, or None if it is unmapped."""
        return self._spaces[space].get(page, (None, None))[0]

    def sheet_of(self, space, page):
        """The sheet to which the mapped page refers."""
        return self._spaces[space][page][1]

    def is_shared(self, space, page):
        """Whether other pages refer to the sheet of the mapped page, too."""
        return self._counts[self.sheet_of(space, page)] >= 2

    def value_of(self, sheet):
        """The value of the sheet."""
        return self._values[sheet]

    def set_value(self, sheet, value):
        """Sets the value of the sheet."""
        self._values[sheet] = value

    def map_page(self, space, page, rights):
        """Maps the page to a new sheet with the value 0."""
        self._spaces[space][page] = (rights, self._new_sheet(0))

    def unmap_page(self, space, page):
        """Unmaps the mapped page."""
        self._counts[self.sheet_of(space, page)] -= 1
        del self._spaces[space][page]

    def protect_page(self, space, page, rights):
        """Replaces the rights of the mapped page."""
        self._spaces[space][page] = (rights, self.sheet_of(space, page))

    def part_page(self, space, page):
        """Gives the mapped page, whose sheet is shared, a new sheet with the same value."""
        shared = self.sheet_of(space, page)
        self._counts[shared] -= 1
        self._spaces[space][page] = (self.rights_of(space, page), self._new_sheet(self._values[shared]))

    def fork(self, space):
        """Makes a space whose pages refer to the same sheets, and returns its number."""
        twin = dict(self._spaces[space])
        for _, sheet in twin.values():
            self._counts[sheet] += 1
        self._spaces.append(twin)
        return len(self._spaces) - 1

    def _new_sheet(self, value):
        """A sheet with the value, to which one page refers."""
        self._values.append(value)
        self._counts.append(1)
        return len(self._values) - 1
