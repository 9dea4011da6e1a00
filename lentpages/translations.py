"""Translations: the caches of the hands, whose keys lead from the pages of spaces to slots."""

from lentpages.cache import Cache


class Translations:
    """The caches of all hands. A key (space, page, right) leads to the slot (book, page) of its page."""

    def __init__(self, hands, capacity):
        self._caches = [Cache(capacity) for _ in range(hands)]
        self._walk_count = 0

    def find_key(self, hand, key):
        """Whether the key is in the cache of the hand, where it is now the last one used; if not, this is a walk."""
        found = self._caches[hand].look(key) is not None
        if not found:
            self._walk_count += 1
        return found

    def put_key(self, hand, key, slot):
        """Puts the key into the cache of the hand."""
        self._caches[hand].fill(key, slot)

    def drop_keys(self, matches):
        """Removes the keys with matches(key, slot) from all caches."""
        for cache in self._caches:
            dropped = [key for key, slot in cache.entries() if matches(key, slot)]
            for key in dropped:
                cache.drop(key)

    def drop_pages(self, space, start, end, *, kept=""):
        """Removes the keys of the pages of the range from all caches, but for those whose right is kept."""
        self.drop_keys(lambda key, slot: key[0] == space and start <= key[1] < end and key[2] not in kept)

    def keys_of(self, hand):
        """The keys in the cache of the hand, from the least to the most recently used one."""
        return [entry[0] for entry in self._caches[hand].entries()]

    def empty_cache(self, hand):
        """Removes all keys from the cache of the hand and returns how many there were."""
        return self._caches[hand].clear_all()

    def empty_all(self):
        """Removes all keys from all caches."""
        for cache in self._caches:
            cache.clear_all()

    def walk_count(self):
        """The number of walks of all hands so far."""
        return self._walk_count
