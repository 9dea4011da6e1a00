"""Translation caches: they keep the entries that were used most recently."""


class Cache:
    """Keeps at most capacity entries, each with a key and a value."""

    def __init__(self, capacity):
        self._capacity = capacity
        # The order of this dict, in which keys were added, is the order in which they were used.
        self._entries = {}

    def look(self, key):
        """The value of the key, which is then the most recently used one, or None."""
        if key not in self._entries:
            return None
        value = self._entries.pop(key)
        self._entries[key] = value
        return value

    def fill(self, key, value):
        """Stores the entry as the most recently used one; returns the key that had to leave, or None."""
        if self._capacity == 0:
            return None
        self.drop(key)
        self._entries[key] = value
        if len(self._entries) <= self._capacity:
            return None
        oldest = next(iter(self._entries), None)
        self.drop(oldest)
        return oldest

    def drop(self, key):
        """Removes the entry of the key, if there is one, and tells whether there was."""
        if key not in self._entries:
            return False
        del self._entries[key]
        return True

    def clear_all(self):
        """Removes all entries and returns how many there were."""
        count = len(self._entries)
        self._entries = {}
        return count

    def entries(self):
        """The entries from the least to the most recently used one."""
        return list(self._entries.items())

    def __contains__(self, key):
        return key in self._entries
