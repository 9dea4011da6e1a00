"""A plain machine, which does each instruction at once on a plain house, and random code for machines."""

from lentpages.codes import assemble
from lentpages.errors import BadRange, BeyondFile, Denied, NoRoom, Unmapped
from tests.plain import outcome

OPERANDS = ("", "a", "abc", "abc", "ab", "ab", "ab", "ab", "abc", "a", "a")
TRAPS = {
    BadRange: ("range", "start"), Unmapped: ("unmapped", "page"), Denied: ("denied", "page"),
    BeyondFile: ("beyond", "index"), NoRoom: ("room", "needed"),
}


class PlainMachine:
    """Keeps the registers and does instructions; frames is None, or the number of frames in mode "restart"."""

    def __init__(self, house, space, *, start=0, frames=None):
        self.house = house
        self.space = space
        self.position = start
        self.frames = frames
        self.values = [0] * 8
        self.count = 0
        self.end = None
        # What the last instruction named: ranges of bytes, and for how many ticks its data count.
        self.ranges = []
        self.data_count = 0

    def state(self):
        return (self.end, self.values, self.position, self.count)

    def trap(self, address, length, right):
        """Sets the outcome if the bytes cannot be used; tells whether it did."""
        result, *rest = outcome(self.house.check, self.space, address, length, right=right)
        if result == "raised":
            word, field = TRAPS[rest[0]]
            self.end = ("trap", word, rest[1][field])
        return result == "raised"

    def byte(self, address):
        return self.house.read(self.space, address, 1)[0]

    def step(self):
        self.ranges, self.data_count = [], 0
        if self.end or self.trap(self.position, 4, "x"):
            return self.end
        code, a, b, c = self.house.read(self.space, self.position, 4, right="x")
        if code > 10 or any([field > 7 for field, name in zip((a, b, c), "abc") if name in OPERANDS[code]]):
            self.end = ("trap", "code", self.position)
            return self.end
        values = [self.values[field % 8] for field in (a, b, c)]
        reads, writes = self.data_of(code, *values)
        self.data_count = reads[1] + writes[1]
        if self.trap(*reads, "r") or self.trap(*writes, "w"):
            return self.end
        self.ranges = [(self.position, 4), reads, writes]
        if self.frames is not None and self.needed(writes) > self.frames:
            self.end = ("starved", self.needed(writes), self.frames)
            return self.end
        self.do(code, a, b + 256 * c, values)
        return self.end

    def data_of(self, code, first, second, third):
        """The ranges (address, length) that the instruction reads and writes."""
        if code == 8:
            return (second, third), (first, third)
        reads = (second, {4: 1, 6: 2}.get(code, 0)) if code in (4, 6) else (0, 0)
        return reads, (first, {5: 1, 7: 2}[code]) if code in (5, 7) else (0, 0)

    def stamps(self):
        """The different stamps of the pages that the last instruction used."""
        size = self.house.page_size
        pages = {at // size for address, length in self.ranges for at in range(address, address + length)}
        return {self.house.stamp_at(self.space, page) for page in pages} - {0}

    def needed(self, writes):
        return len(self.stamps()) + self.house.growth(self.space, *writes)

    def do(self, code, a, n, values):
        first, second, third = values
        after = self.position + 4
        if code == 0:
            self.end, after = ("halt",), self.position
        elif code in (1, 2, 3):
            self.values[a] = (n, second + third, second - third)[code - 1] % 65536
        elif code == 4:
            self.values[a] = self.byte(second)
        elif code == 6:
            self.values[a] = self.byte(second) + 256 * self.byte(second + 1)
        elif code in (5, 7):
            for at in range({5: 1, 7: 2}[code]):
                self.house.write(self.space, first + at, [second // 256 ** at % 256])
        elif code == 8:
            for at in range(third):
                self.house.write(self.space, first + at, [self.byte(second + at)])
        elif code == 9:
            after = n if first else after
        else:
            self.values[a] = self.house.fork_space(self.space)
        self.position = after
        self.count += 1


def random_line(rng, size):
    """A line of code; size is the number of the bytes of the space."""
    words = ("add", "sub", "load", "store", "loadw", "storew", "move", "move", "store", "fork")
    word = rng.choice(("set",) * 6 + words)
    word = rng.choice(("jump", "halt")) if rng.random() < 0.02 else word
    fields = [rng.randrange(4) for _ in range(3)]
    if word in ("set", "jump"):
        numbers = (0, 1, 2, 3, rng.randrange(10), size - 1, size, rng.randrange(size))
        number = rng.choice(numbers + (rng.randrange(size // 2, size),) * 6)
        if rng.random() < 0.02:
            number = rng.choice((65535, 300))
        return f"{word} {fields[0]} {number}"
    count = {"halt": 0, "fork": 1, "load": 2, "store": 2, "loadw": 2, "storew": 2}.get(word, 3)
    return " ".join([word] + [str(field) for field in fields[:count]])


def random_code(rng, size, start):
    """The bytes of random lines, which mostly go back to the start in the end; now and then a byte is another one."""
    lines = [f"set {number} {rng.randrange(size // 2, size)}" for number in range(rng.randrange(4))]
    lines += [random_line(rng, size) for _ in range(rng.randint(2, 8))]
    code = assemble(lines + rng.choice(([], ["set 7 1", f"jump 7 {start}"], ["set 7 1", f"jump 7 {start}"])))
    if rng.random() < 0.15:
        code[rng.randrange(len(code))] = rng.randrange(256)
    return code
