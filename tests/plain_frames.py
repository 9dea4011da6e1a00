"""Plain frames: choosers that look through all that they were told."""

KINDS = ("lru", "fifo", "newest", "clock")


class PlainChooser:
    """Keeps all calls; for the clock, a bit for each frame and a hand."""

    def __init__(self, kind, frames):
        self.kind = kind
        self.frames = frames
        self.calls = []
        self.bits = {frame: 0 for frame in range(frames)}
        self.hand = 0

    def filled(self, frame):
        self.calls.append(("filled", frame))
        self.bits[frame] = 1

    def touched(self, frame):
        self.calls.append(("touched", frame))
        self.bits[frame] = 1

    def emptied(self, frame):
        self.calls.append(("emptied", frame))
        self.bits[frame] = 0

    def last_call(self, frame, names):
        """The position of the last call with one of the names for the frame."""
        return max([at for at, call in enumerate(self.calls) if call[0] in names and call[1] == frame])

    def choose(self, allowed):
        if self.kind == "clock":
            return self.choose_by_hand(allowed)
        names = ("filled", "touched") if self.kind == "lru" else ("filled",)
        rows = sorted([(self.last_call(frame, names), frame) for frame in allowed])
        return rows[-1][1] if self.kind == "newest" else rows[0][1]

    def choose_by_hand(self, allowed):
        chosen = None
        while chosen is None:
            if self.hand in allowed and self.bits[self.hand] == 0:
                chosen = self.hand
            elif self.hand in allowed:
                self.bits[self.hand] = 0
            self.hand = self.hand + 1 if self.hand + 1 < self.frames else 0
        return chosen
