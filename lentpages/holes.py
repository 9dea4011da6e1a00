"""Holes: runs of unmapped pages, and the mapped pages that stand in their way."""

from lentpages.errors import NoHole


def find_hole(regions, length, *, least=0):
    """The lowest start, not below least, of so many unmapped pages."""
    start = least
    for region in regions:
        if start + length <= region[0]:
            return start
        start = max(start, region[1])
    if start + length > regions.limit:
        raise NoHole(length)
    return start


def hole_blockers(regions, length, *, least=0):
    """The fewest mapped pages that show why no lower hole was found."""
    blockers = []
    last = _last_candidate(regions, length, least)
    start = least
    while start <= last:
        blocker = _highest_mapped(regions, start + length - 1)
        blockers.append(blocker)
        # All candidates from start to the blocker contain it.
        start = blocker + 1
    return blockers


def _last_candidate(regions, length, least):
    """The highest start of a candidate, or a number below least if there is none."""
    try:
        return find_hole(regions, length, least=least) - 1
    except NoHole:
        return regions.limit - length


def _highest_mapped(regions, page):
    """The highest mapped page that is not above the page; callers know that there is one."""
    while page not in regions:
        page -= 1
    return page
