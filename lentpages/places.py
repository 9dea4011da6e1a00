"""The places of a store: which stamps are on them, and which uses they have seen."""


class Places:
    """Keeps the stamp that is on each place, and what each place remembers of its last use."""

    def __init__(self, count):
        # A free place has the stamp 0.
        self._stamps = [0] * count
        self._remembered = [(0, 0)] * count
        self._rows = []
        self._read_count = 0
        self._write_count = 0

    def has_stamp(self, stamp):
        """Whether the stamp is on a place."""
        return stamp in self._stamps

    def has_free(self):
        """Whether a place is free."""
        return 0 in self._stamps

    def read_from(self, stamp):
        """Reads from the place of the stamp."""
        self._use(self._stamps.index(stamp))
        self._read_count += 1

    def write_to(self, stamp):
        """Writes the content of the stamp to the free place with the lowest number."""
        place = self._stamps.index(0)
        self._stamps[place] = stamp
        self._use(place)
        self._write_count += 1

    def free(self, stamp):
        """Frees the place of the stamp, if it has one; this is no use."""
        if stamp in self._stamps:
            self._stamps[self._stamps.index(stamp)] = 0

    def stamp_list(self):
        """The stamps on the places, in the order of their numbers."""
        return list(self._stamps)

    def read_count(self):
        """How many contents were read from a place."""
        return self._read_count

    def write_count(self):
        """How many contents were written to a place."""
        return self._write_count

    def rows(self):
        """A row (place, found stamp, found time, left stamp) for each use, in their order."""
        return list(self._rows)

    def sweep(self):
        """What each place remembers, as tuples (place, stamp, time)."""
        return [(place, stamp, time) for place, (stamp, time) in enumerate(self._remembered)]

    def _use(self, place):
        """Notes a use of the place that leaves the stamp on it."""
        stamp = self._stamps[place]
        self._rows.append((place,) + self._remembered[place] + (stamp,))
        self._remembered[place] = (stamp, len(self._rows))
