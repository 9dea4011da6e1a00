"""The checks of ranges that several parts have in common."""

from lentpages.errors import BadRange


def check_range(start, end, limit):
    """Raises BadRange unless the range has a number and lies in (0, limit)."""
    if not 0 <= start < end <= limit:
        raise BadRange(start, end)


def check_stretch(start, end, limit):
    """Raises BadRange unless the range, which may be empty, lies in (0, limit)."""
    if not 0 <= start <= end <= limit:
        raise BadRange(start, end)
