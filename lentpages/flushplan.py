"""Flush plans: when to empty a cache, so that every touch sees the actual value."""

from lentpages.cache import Cache
from lentpages.droprules import touch


def flush_plan(trace, capacity):
    """The positions before which the cache is emptied, and a pair for each that shows why one is needed."""
    table = {}
    cache = Cache(capacity)
    last = {}
    pairs = []
    for at, event in enumerate(trace):
        key = event[1]
        if event[0] == "set":
            table[key] = event[2]
        else:
            if _is_stale(table, cache, key):
                cache.clear_all()
                pairs.append((last[key], at))
            touch(table, cache, key)
            last[key] = at
    return ([pair[1] for pair in pairs], pairs)


def _is_stale(table, cache, key):
    """Whether a touch of the key would not see the actual value."""
    # An entry that is found and not stale is touched next, so looking it up here changes no order.
    seen = cache.look(key)
    return seen is not None and seen != table.get(key)
