"""Regions: which pages of a space are mapped, and how."""

from lentpages.errors import Unmapped
from lentpages.marks import clip, merge, mark_in
from lentpages.ranges import check_range


class Regions:
    """Gives marks to the pages 0 to limit - 1."""

    def __init__(self, limit):
        self.limit = limit
        # A change makes a new list of regions, so that loops over the object go on undisturbed.
        self._rows = []

    def assign(self, start, end, rights, *, file="", index=0):
        """Gives marks to the pages of the range; those of a file have ascending indexes."""
        check_range(start, end, self.limit)
        first = index if file else 0
        self._splice(start, end, [(start, end, rights, file, first)])

    def unassign(self, start, end):
        """Removes the marks of the range."""
        check_range(start, end, self.limit)
        self._splice(start, end, [])

    def protect(self, start, end, rights):
        """Replaces the rights in the marks of the range, all of whose pages have to be mapped."""
        check_range(start, end, self.limit)
        parts = self._parts_in(start, end)
        _check_mapped(parts, start, end)
        self._splice(start, end, [part[:2] + (rights,) + part[3:] for part in parts])

    def as_list(self):
        """The regions in ascending order."""
        return list(self._rows)

    def __iter__(self):
        return iter(self._rows)

    def mark_at(self, page):
        """The mark of the page, or None."""
        at = self._count_up_to(page)
        if at == len(self._rows) or page < self._rows[at][0]:
            return None
        return mark_in(self._rows[at], page)

    def __contains__(self, page):
        return self.mark_at(page) is not None

    def mapped_count(self):
        """The number of mapped pages."""
        return sum([region[1] - region[0] for region in self._rows])

    def clone(self):
        """An independent copy."""
        twin = Regions(self.limit)
        twin._rows = list(self._rows)
        return twin

    def _splice(self, start, end, parts):
        """Replaces all that the range contains by the parts."""
        # Regions that only touch the range are looked at, too, because the parts may continue them.
        low = self._count_up_to(start - 1)
        high = self._count_up_to(end) + 1
        near = self._rows[low:high]
        changed = merge(clip(near, 0, start) + parts + clip(near, end, self.limit))
        self._rows = self._rows[:low] + changed + self._rows[high:]

    def _parts_in(self, start, end):
        """The parts of the regions that lie in the range."""
        low = self._count_up_to(start)
        high = self._count_up_to(end) + 1
        return clip(self._rows[low:high], start, end)

    def _count_up_to(self, page):
        """The number of regions that lie wholly before the page."""
        low = 0
        high = len(self._rows)
        while low < high:
            middle = (low + high) // 2
            if self._rows[middle][1] <= page:
                low = middle + 1
            else:
                high = middle
        return low


def _check_mapped(parts, start, end):
    """Raises Unmapped for the lowest page of the range that is in none of the parts."""
    page = start
    for part in parts:
        if page < part[0]:
            raise Unmapped(page)
        page = part[1]
    if page < end:
        raise Unmapped(page)
