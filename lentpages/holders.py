"""Holders: which pages of which books have a stamp."""


class Holders:
    """Keeps the holders of each stamp. A holder is a pair (book, page); stamp 0 has none."""

    def __init__(self):
        self._pairs = {}

    def enter(self, stamp, holder):
        """Makes the pair a holder of the stamp."""
        if stamp != 0:
            self._pairs.setdefault(stamp, {})[holder] = True

    def leave(self, stamp, holder):
        """Ends that the pair is a holder of the stamp."""
        if stamp != 0:
            del self._pairs[stamp][holder]
            if not self._pairs[stamp]:
                del self._pairs[stamp]

    def holder_count(self, stamp):
        """The number of the holders of the stamp."""
        return len(self._pairs.get(stamp, {}))

    def holders_of(self, stamp):
        """The holders of the stamp in ascending order."""
        return sorted(self._pairs.get(stamp, {}))

    def held_stamps(self):
        """The stamps that have a holder, in ascending order."""
        return sorted(self._pairs)

    def lost_among(self, stamps):
        """Those of the stamps that have no holder, in ascending order, each once."""
        return sorted({stamp for stamp in stamps if stamp not in self._pairs})
