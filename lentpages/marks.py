"""Marks (rights, file, index) and regions (start, end, rights, file, index) as plain tuples."""


def mark_after(mark, steps):
    """The successor of the mark, taken so many times."""
    rights, file, index = mark
    if file == "":
        return mark
    return (rights, file, index + steps)


def mark_in(region, page):
    """The mark that the region gives to one of its pages."""
    return mark_after(region[2:], page - region[0])


def clip(regions, start, end):
    """The parts of the regions that lie in the range."""
    parts = []
    for region in regions:
        low = max(region[0], start)
        high = min(region[1], end)
        if low < high:
            parts.append((low, high) + mark_in(region, low))
    return parts


def merge(regions):
    """The regions in ascending order, with those made one that continue each other."""
    merged = []
    for region in regions:
        if merged and _continues(merged[-1], region):
            merged[-1] = (merged[-1][0], region[1]) + merged[-1][2:]
        else:
            merged.append(region)
    return merged


def _continues(region, later):
    """Whether the first page of the later region continues the last page of the region."""
    return region[1] == later[0] and mark_in(region, later[0]) == later[2:]
