"""Choosers: which frame is emptied next."""


class Chooser:
    """Decides by its kind, "lru", "fifo", "newest" or "clock", which frame is emptied next."""

    def __init__(self, kind, frames):
        self._kind = kind
        self._frames = frames
        self._calls = 0
        # For each frame the numbers of the calls that last filled it, and last filled or touched it.
        self._fill_calls = [0] * frames
        self._use_calls = [0] * frames
        self._bits = [0] * frames
        self._hand = 0

    def filled(self, frame):
        """Tells that the empty frame is filled."""
        self.touched(frame)
        self._fill_calls[frame] = self._calls

    def touched(self, frame):
        """Tells that the filled frame is used."""
        self._calls += 1
        self._use_calls[frame] = self._calls
        self._bits[frame] = 1

    def emptied(self, frame):
        """Tells that the filled frame is emptied."""
        self._bits[frame] = 0

    def choose(self, allowed):
        """One of the filled frames that are allowed."""
        if self._kind == "clock":
            return self._choose_by_hand(allowed)
        if self._kind == "lru":
            return min(allowed, key=lambda frame: self._use_calls[frame])
        if self._kind == "fifo":
            return min(allowed, key=lambda frame: self._fill_calls[frame])
        return max(allowed, key=lambda frame: self._fill_calls[frame])

    def _choose_by_hand(self, allowed):
        """The first allowed frame under the hand whose bit is 0; the hand takes away the bits on its way."""
        while True:
            frame = self._hand
            self._hand = (frame + 1) % self._frames
            if frame in allowed:
                if self._bits[frame] == 0:
                    return frame
                self._bits[frame] = 0
