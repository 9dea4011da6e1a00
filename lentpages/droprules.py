"""Drop rules: which changes of a table have to drop a key from a cache of its values."""

from lentpages.cache import Cache


def change_kind(old, new):
    """The kind of a change of a key's value, where None stands for absent."""
    if old == new:
        return "same"
    if old is None:
        return "gain"
    if new is None:
        return "loss"
    return "move"


def play_trace(trace, capacity, kinds):
    """What each touch of the trace sees, and the actual value, if the kinds drop keys from the cache."""
    table = {}
    cache = Cache(capacity)
    pairs = []
    for event in trace:
        if event[0] == "set":
            _set_value(table, cache, event[1:], kinds)
        elif event[0] == "touch":
            pairs.append(touch(table, cache, event[1]))
        else:
            cache.clear_all()
    return pairs


def is_safe(kinds, capacity):
    """Whether every touch of every trace sees the actual value."""
    return capacity == 0 or ("loss" in kinds and "move" in kinds)


def unsafe_trace(kinds, capacity):
    """Four events, the last one a touch that does not see the actual value, or None if this cannot be."""
    if is_safe(kinds, capacity):
        return None
    later = 2 if "loss" in kinds else None
    return [("set", 1, 1), ("touch", 1), ("set", 1, later), ("touch", 1)]


def touch(table, cache, key):
    """Does a touch event: what it sees, and the actual value. In the table None stands for absent, too."""
    actual = table.get(key)
    seen = cache.look(key)
    if seen is None:
        seen = actual
        if actual is not None:
            cache.fill(key, actual)
    return (seen, actual)


def _set_value(table, cache, entry, kinds):
    """Does a set event with the key and value of the entry."""
    key, value = entry
    if change_kind(table.get(key), value) in kinds:
        cache.drop(key)
    if value is None:
        table.pop(key, None)
    else:
        table[key] = value
