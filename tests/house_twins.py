"""Houses that are told the same deeds as a plain house, random deeds for them, and what holds in every house."""

from copy import deepcopy

from lentpages.house import House
from tests.plain import RIGHTS, outcome
from tests.plain_house import PlainHouse

NAMES = ("a", "b", "data", "zz")
ATTEMPTED = (
    "create_space", "fork_space", "delete_space", "map_plain", "unmap", "protect", "write", "write", "write_file",
)
DEEDS = (
    ("write", 12), ("read", 6), ("write_file", 5), ("read_file", 2), ("check", 2), ("growth", 2), ("map_plain", 4),
    ("map_shared", 5), ("map_private", 3), ("unmap", 2), ("protect", 3), ("create_space", 2), ("fork_space", 3),
    ("delete_space", 1), ("create_file", 2), ("copy_file", 1), ("resize_file", 2), ("delete_file", 1),
    ("find_hole", 1), ("walk", 1), ("checkpoint", 1), ("go_back", 1), ("forget", 2), ("attempt", 1), ("sync", 1),
)
# The same limit with many frames, with many places, and between.
FRAMES_AND_PLACES = {
    4: ((4, 0), (4, 1), (1, 4), (2, 3), (3, 2)),
    7: ((7, 1), (1, 7), (2, 6), (5, 3)),
    12: ((12, 0), (1, 12), (3, 10), (8, 5)),
}
CHOOSERS = ("lru", "fifo", "newest", "clock")


class Deeds:
    """Random deeds for a plain house, mostly such that raise no error."""

    def __init__(self, rng, plain, most_spaces=4):
        self.rng = rng
        self.plain = plain
        self.most_spaces = most_spaces
        self.names = [name for name, weight in DEEDS for _ in range(weight)]

    def space(self):
        spaces = self.plain.spaces()
        if spaces and self.rng.random() < 0.97:
            return self.rng.choice(spaces)
        return self.rng.randrange(7)

    def name(self, new=False):
        names = [name for name in NAMES if (name in self.plain.papers) != new]
        return self.rng.choice(names) if names and self.rng.random() < 0.95 else self.rng.choice(NAMES)

    def stretch(self, size, most):
        """A start and a length, mostly within the size."""
        start = self.rng.randint(0, max(0, size - 1))
        length = self.rng.choice((1, 1, 2, self.rng.randint(0, most)))
        if self.rng.random() < 0.05:
            return (self.rng.randint(-2, size + 2), self.rng.randint(0, most))
        return (start, min(length, max(0, size - start)))

    def pages(self):
        """Like stretch; now and then with a length of 0 or below."""
        start, length = self.stretch(self.plain.page_count, self.plain.page_count)
        return (start, length if self.rng.random() < 0.95 else self.rng.randint(-2, 0))

    def address(self, size):
        start, length = self.stretch(size, 3 * self.plain.page_size)
        if self.rng.random() < 0.5:
            # A stretch of whole pages.
            start -= start % self.plain.page_size
        return (start, length)

    def bytes(self, length):
        return [self.rng.randrange(256) for _ in range(length)]

    def rights(self):
        return self.rng.choice(("rw", "rw", "rwx", "r") + RIGHTS)

    def next(self):
        """A deed: its name, arguments and keyword arguments."""
        name = self.rng.choice(self.names)
        if not self.plain.rooms and self.rng.random() < 0.5:
            name = "create_space"
        elif not any([marks.runs() for marks, _ in self.plain.rooms.values()]) and self.rng.random() < 0.5:
            name = self.rng.choice(("map_plain", "map_shared"))
        if len(self.plain.rooms) >= self.most_spaces and name in ("create_space", "fork_space"):
            name = "delete_space"
        if len(self.plain.kept) >= 3 and name == "checkpoint":
            name = "forget"
        if name in ("attempt", "sync", "checkpoint", "create_space"):
            return (name, ([self.attempted() for _ in range(self.rng.randrange(4))],) if name == "attempt" else (), {})
        return self.one(name)

    def attempted(self):
        name = self.rng.choice(ATTEMPTED)
        return (name,) + (() if name == "create_space" else self.one(name)[1])

    def one(self, name):
        if name in ("go_back", "forget"):
            numbers = sorted(self.plain.kept) * 5 + [0, self.plain.last_checkpoint + 1]
            return (name, (self.rng.choice(numbers),), {})
        if name in ("create_file", "resize_file"):
            size = self.rng.choice((2, 3, self.plain.page_count, self.rng.randint(-1, self.plain.page_count + 1)))
            return (name, (self.name(name == "create_file"), size), {})
        if name in ("copy_file", "delete_file"):
            return (name, (self.name(), self.name(True)) if name == "copy_file" else (self.name(),), {})
        if name in ("read_file", "write_file"):
            return self.file_access(name)
        if name in ("read", "write", "check", "growth"):
            return self.access(name)
        return self.mapping(name)

    def file_access(self, name):
        file = self.name()
        address, length = self.address(dict(self.plain.files()).get(file, 1) * self.plain.page_size)
        return (name, (file, address, length if name == "read_file" else self.bytes(length)), {})

    def usable(self, right):
        """A space, and the address and length of some of its bytes, mostly such that may be used with the right."""
        regions = [(space, row) for space in self.plain.spaces() for row in self.plain.regions(space)]
        regions = [(space, row) for space, row in regions if right in row[2]]
        if not regions or self.rng.random() < 0.15:
            return (self.space(),) + self.address(self.plain.page_count * self.plain.page_size)
        space, (start, end, *_) = self.rng.choice(regions)
        address, length = self.address((end - start) * self.plain.page_size)
        return (space, start * self.plain.page_size + address, length)

    def access(self, name):
        more = {}
        if name == "check" or (name == "read" and self.rng.random() < 0.3):
            more["right"] = self.rng.choice("rwx")
        space, address, length = self.usable(more.get("right", "r" if name == "read" else "w"))
        if name in ("read", "write") and self.rng.random() < 0.5:
            # The houses number their hands from 0; the twins take what is too much away.
            more["hand"] = self.rng.randrange(4)
        return (name, (space, address, self.bytes(length) if name == "write" else length), more)

    def mapping(self, name):
        space = self.space()
        if name == "find_hole":
            return (name, (space, self.rng.randint(1, 4)), {"least": self.rng.randrange(self.plain.page_count)})
        if name == "walk":
            return (name, (space, self.rng.randint(-1, self.plain.page_count)), {})
        if name in ("fork_space", "delete_space"):
            return (name, (space,), {})
        if name in ("map_plain", "protect"):
            return (name, (space, *self.pages(), self.rights()), {})
        if name == "unmap":
            return (name, (space, *self.pages()), {})
        file = self.name()
        size = dict(self.plain.files()).get(file, 1)
        return (name, (space, *self.pages(), self.rights(), file, self.rng.randint(0, size)), {})


class Twins:
    """A plain house and houses with the same limit; each difference fails the test."""

    def __init__(self, test, houses, plain):
        self.test = test
        self.houses = houses
        self.plain = plain
        self.log = []

    def do(self, name, *args, **more):
        """Does a deed on all, or asks all a question; returns the outcome."""
        self.log.append((name, args, more))
        wanted = outcome(getattr(self.plain, name), *deepcopy(args), **more)
        for house in self.houses:
            told = deepcopy(args)
            found = outcome(getattr(house, name), *told, **self.keywords(house, more))
            self.test.assertEqual(found, wanted, self.log[-40:])
            self.test.assertEqual(told, args)
        return wanted

    def keywords(self, house, more):
        return {**more, "hand": more["hand"] % house.hands} if "hand" in more else more

    def compare(self):
        """Compares all that a house tells without using a page."""
        for name in ("spaces", "files", "stamps", "copies", "table_count"):
            self.do(name)
        for space in self.plain.spaces():
            self.do("regions", space)
            for page in range(self.plain.page_count):
                self.do("stamp_at", space, page)
        for name, size in self.plain.files():
            for page in range(size + 1):
                self.do("file_stamp", name, page)
        for stamp in [0] + self.plain.stamps():
            self.do("holders", stamp)

    def compare_bytes(self):
        """Compares all bytes that can be read."""
        for space in self.plain.spaces():
            for page in range(self.plain.page_count):
                self.do("read", space, page * self.plain.page_size, self.plain.page_size)
        for name, size in self.plain.files():
            self.do("read_file", name, 0, size * self.plain.page_size)

    def compare_pairs(self, rng, count):
        """Compares what tells some pairs of pages apart."""
        for _ in range(count):
            space, other = rng.randrange(4), rng.randrange(4)
            page, other_page = [rng.randint(-1, self.plain.page_count) for _ in range(2)]
            self.do("tell_apart", space, page, other, other_page)

    def events(self, rng):
        """Events that are different in each house and change no answer."""
        for house in self.houses:
            for _ in range(rng.randrange(4)):
                name = rng.choice(("put_out", "put_out", "bring_in", "empty_cache", "held"))
                stamp = rng.choice(self.plain.stamps() + [0, 9999])
                if name == "empty_cache":
                    house.empty_cache(rng.randrange(house.hands))
                else:
                    outcome(getattr(house, name), stamp)
            house.let_go()

    def check_houses(self):
        for house in self.houses:
            check_house(self.test, house, self.plain)


def check_house(test, house, plain):
    """Checks what points 57 and 59 promise of frames, places and caches at each moment."""
    in_frames, in_places, stamps = house.in_frames(), house.in_places(), plain.stamps()
    test.assertEqual(sorted(set(in_frames + in_places)), stamps)
    test.assertEqual((in_frames, in_places), (sorted(set(in_frames)), sorted(set(in_places))))
    test.assertLessEqual(len(in_frames), house.frames)
    for hand in range(house.hands):
        keys = house.cached(hand)
        test.assertEqual(len(keys), len(set(keys)))
        for key in keys:
            test.assertTrue(may_be_cached(plain, key, in_frames), (key, in_frames))


def may_be_cached(plain, key, in_frames):
    """The condition of point 59."""
    space, page, right = key
    if space not in plain.rooms or plain.rooms[space][0].marks[page] is None:
        return False
    rights, name, index = plain.rooms[space][0].marks[page]
    if right not in rights or (name and index >= plain.papers[name][0]):
        return False
    stamp = plain.library.stamp_of(*plain.slot(space, page))
    return stamp in in_frames and (right != "w" or len(plain.library.holders(stamp)) == 1)


def make_twins(test, rng, limit, *, widths=(2, 3), page_size=3, blocks=60):
    """A plain house and one house for each way to have the limit."""
    houses = [
        House(
            widths=widths, page_size=page_size, frames=frames, places=places, blocks=blocks, hands=rng.randint(1, 4),
            cache=rng.choice((0, 1, 2, 5, 64)), chooser=rng.choice(CHOOSERS),
        )
        for frames, places in FRAMES_AND_PLACES[limit]
    ]
    return Twins(test, houses, PlainHouse(widths=widths, page_size=page_size, limit=limit, blocks=blocks))
