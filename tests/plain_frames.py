"""Plain frames: choosers that look through all that they were told, and a pager that keeps each copy of a content."""

from lentpages.errors import NoRoom, NoStamp, Starved

KINDS = ("lru", "fifo", "newest", "clock")


class PlainChooser:
    """Keeps all calls; for the clock, a bit for each frame and a hand."""

    def __init__(self, kind, frames):
        self.kind = kind
        self.frames = frames
        self.calls = []
        self.bits = {frame: 0 for frame in range(frames)}
        self.hand = 0

    def filled(self, frame):
        self.calls.append(("filled", frame))
        self.bits[frame] = 1

    def touched(self, frame):
        self.calls.append(("touched", frame))
        self.bits[frame] = 1

    def emptied(self, frame):
        self.calls.append(("emptied", frame))
        self.bits[frame] = 0

    def last_call(self, frame, names):
        """The position of the last call with one of the names for the frame."""
        at = len(self.calls) - 1
        while self.calls[at][0] not in names or self.calls[at][1] != frame:
            at -= 1
        return at

    def choose(self, allowed):
        if self.kind == "clock":
            return self.choose_by_hand(allowed)
        names = ("filled", "touched") if self.kind == "lru" else ("filled",)
        rows = sorted([(self.last_call(frame, names), frame) for frame in allowed])
        return rows[-1][1] if self.kind == "newest" else rows[0][1]

    def choose_by_hand(self, allowed):
        chosen = None
        while chosen is None:
            if self.hand in allowed and self.bits[self.hand] == 0:
                chosen = self.hand
            elif self.hand in allowed:
                self.bits[self.hand] = 0
            self.hand = self.hand + 1 if self.hand + 1 < self.frames else 0
        return chosen


class PlainPager:
    """Frames with rows [stamp, data, pinned] and places with rows (stamp, data), or None where there is nothing."""

    def __init__(self, frames, places, page_size, *, chooser="lru"):
        self.chooser = PlainChooser(chooser, frames)
        self.page_size = page_size
        self.frames = [None] * frames
        self.places = [None] * places
        self.remembered = [(0, 0)] * places
        self.rows = []
        self.moved = []
        self.ins = 0
        self.outs = 0

    def room(self):
        return len(self.frames) + (len(self.places) - 1 if self.places else 0)

    def frame_of(self, stamp):
        found = [frame for frame, row in enumerate(self.frames) if row and row[0] == stamp]
        return found[0] if found else None

    def place_of(self, stamp):
        found = [place for place, row in enumerate(self.places) if row and row[0] == stamp]
        return found[0] if found else None

    def live(self):
        return sorted({row[0] for row in self.frames + self.places if row})

    def check(self, stamp):
        if stamp not in self.live():
            raise NoStamp(stamp)

    def check_room(self):
        if len(self.live()) + 1 > self.room():
            raise NoRoom(len(self.live()) + 1, self.room())

    def use(self, place, stamp):
        self.rows.append((place, *self.remembered[place], stamp))
        self.remembered[place] = (stamp, len(self.rows))

    def free(self, stamp):
        if self.place_of(stamp) is not None:
            self.places[self.place_of(stamp)] = None

    def both(self):
        return [row[0] for row in self.frames if row and self.place_of(row[0]) is not None]

    def empty(self, frame):
        self.frames[frame] = None
        self.chooser.emptied(frame)

    def move_out(self, frame):
        stamp, data, _ = self.frames[frame]
        if self.place_of(stamp) is None:
            if None not in self.places:
                self.free(min(self.both()))
            place = self.places.index(None)
            self.places[place] = (stamp, list(data))
            self.use(place, stamp)
            self.outs += 1
        self.moved.append(stamp)
        self.empty(frame)

    def obtain(self, spared=None):
        """A frame; the spared one is the last resort, and the chooser does not choose it."""
        if None in self.frames:
            return self.frames.index(None)
        allowed = [frame for frame, row in enumerate(self.frames) if not row[2] and frame != spared]
        if allowed:
            frame = self.chooser.choose(allowed)
        elif spared is not None and not self.frames[spared][2]:
            frame = spared
        else:
            raise Starved(len(self.frames) + 1, len(self.frames))
        self.move_out(frame)
        return frame

    def fill(self, frame, stamp, data):
        self.frames[frame] = [stamp, list(data), False]
        self.chooser.filled(frame)

    def bring(self, stamp):
        self.check(stamp)
        frame = self.frame_of(stamp)
        if frame is not None:
            self.chooser.touched(frame)
            return
        frame = self.obtain()
        place = self.place_of(stamp)
        self.use(place, stamp)
        self.ins += 1
        self.fill(frame, stamp, self.places[place][1])

    def begin(self, stamp):
        self.check_room()
        self.fill(self.obtain(), stamp, [0] * self.page_size)

    def duplicate(self, old, new):
        self.check(old)
        self.check_room()
        self.bring(old)
        data = list(self.frames[self.frame_of(old)][1])
        self.fill(self.obtain(self.frame_of(old)), new, data)

    def rename(self, old, new):
        self.bring(old)
        self.frames[self.frame_of(old)][0] = new
        self.free(old)

    def read(self, stamp, offset, length):
        self.bring(stamp)
        return self.frames[self.frame_of(stamp)][1][offset:offset + length]

    def store(self, stamp, offset, data):
        self.bring(stamp)
        for at, byte in enumerate(data):
            self.frames[self.frame_of(stamp)][1][offset + at] = byte
        self.free(stamp)

    def release(self, stamp):
        self.check(stamp)
        if self.frame_of(stamp) is not None:
            self.empty(self.frame_of(stamp))
        self.free(stamp)

    def put_out(self, stamp):
        self.check(stamp)
        frame = self.frame_of(stamp)
        if frame is None or self.frames[frame][2]:
            return False
        if self.place_of(stamp) is None and None not in self.places and not self.both():
            return False
        self.move_out(frame)
        return True

    def pin(self, stamp):
        self.bring(stamp)
        self.frames[self.frame_of(stamp)][2] = True

    def unpin(self):
        for row in self.frames:
            if row:
                row[2] = False

    def frame_list(self):
        return [row[0] if row else 0 for row in self.frames]

    def place_list(self):
        return [row[0] if row else 0 for row in self.places]

    def page_in_count(self):
        return self.ins

    def page_out_count(self):
        return self.outs

    def left(self):
        self.moved, left = [], self.moved
        return left

    def ledger(self):
        return list(self.rows)

    def sweep(self):
        return [(place, *self.remembered[place]) for place in range(len(self.places))]


def random_step(rng, pager, page_size):
    """The name and arguments of a deed; mostly of live stamps, now and then of others."""
    names = ["bring"] * 3 + ["read"] * 4 + ["store"] * 4 + ["begin"] * 4 + ["duplicate"] * 3 + ["rename"] * 2
    name = rng.choice(names + ["release"] * 2 + ["put_out"] * 3 + ["pin", "left"] + ["unpin"] * 2)
    live = pager.live()
    stamp = rng.choice(live) if live and rng.random() < 0.95 else rng.choice((0, 501, 777))
    # Free numbers from a small range come back, above and below the live ones.
    new = rng.choice([number for number in range(1, 160) if number not in live])
    offset = rng.randrange(page_size)
    if name in ("unpin", "left"):
        return (name,)
    if name == "begin":
        return (name, new)
    if name in ("duplicate", "rename"):
        return (name, stamp, new)
    if name == "read":
        return (name, stamp, offset, rng.randint(0, page_size - offset))
    if name == "store":
        return (name, stamp, offset, [rng.randrange(256) for _ in range(rng.randint(1, page_size - offset))])
    return (name, stamp)
