"""A plain journal: the current state as lists, the number of its blocks, and devices and files for tests."""

from copy import deepcopy

from lentpages.device import Device
from lentpages.errors import NoBlocks
from lentpages.library import Library
from lentpages.shapes import Shape

NAMES = ("a", "b", "data", "log", "zz")


def parts(files):
    """The different tables and stamps of files, with what they are."""
    found = set()
    for _, _, tables, leaves in files:
        found |= {("table", table) for table in tables} | {("stamp", stamp) for _, stamp in leaves}
    return found


class PlainJournal:
    """The state after commits that were not stopped."""

    def __init__(self, blocks):
        self.blocks = blocks
        self.number = 0
        self.rows = []
        self.contents = {}

    def block_count(self):
        return len(parts(self.rows)) + (1 if self.number else 0)

    def new_blocks(self, files):
        """The number w of the document."""
        return len(parts(files) - parts(self.rows)) + 1

    def commit(self, files, contents, *, stop=None):
        new_blocks = self.new_blocks(files)
        needed = 2 + self.block_count() + new_blocks
        if needed > self.blocks:
            raise NoBlocks(needed, self.blocks)
        if stop is None:
            self.move_on(files, contents)
        return new_blocks

    def move_on(self, files, contents):
        stamps = {stamp for kind, stamp in parts(files) if kind == "stamp"}
        self.contents = {stamp: list(self.contents.get(stamp, contents.get(stamp))) for stamp in stamps}
        self.rows = sorted(deepcopy(files))
        self.number += 1

    def crash(self, files, contents, stop, fates):
        """A commit that is stopped and a power failure; tells whether the new state is there."""
        new_blocks = self.new_blocks(files)
        done = stop is None or stop >= new_blocks + 3 or (stop == new_blocks + 2 and list(fates)[:1] == [1])
        if done:
            self.move_on(files, contents)
        return done


class LoggingDevice(Device):
    """A device that notes the operations that are done on it: the block of a write, None for a barrier."""

    def __init__(self, blocks):
        Device.__init__(self, blocks)
        self.operations = []

    def write(self, block, content):
        Device.write(self, block, content)
        self.operations.append(block)

    def barrier(self):
        Device.barrier(self)
        self.operations.append(None)


class Author:
    """Makes files for a journal: books of a library, some of which share tables and stamps."""

    def __init__(self, rng, widths, page_size=3):
        self.rng = rng
        self.shape = Shape(widths)
        self.library = Library(self.shape)
        self.page_size = page_size
        self.books = {}
        self.contents = {}

    def write(self, book):
        for _ in range(self.rng.randrange(4)):
            _, _, stamp = self.library.write(book, self.rng.randrange(self.shape.page_count))
            self.contents[stamp] = [self.rng.randrange(256) for _ in range(self.page_size)]

    def change(self):
        """Makes, removes, copies and changes a few files."""
        for name in self.rng.sample(NAMES, self.rng.randrange(1, 4)):
            kind = self.rng.choice(("remove", "copy", "write", "write", "write"))
            if kind == "remove" or (kind == "copy" and self.books):
                self.books.pop(name, None)
            if kind == "copy" and self.books:
                self.books[name] = self.library.lend(self.rng.choice(sorted(self.books.values())))
            if kind == "write":
                self.books.setdefault(name, self.library.create())
                self.write(self.books[name])

    def files(self):
        """The files in any order."""
        rows = [
            (name, self.shape.page_count, self.library.tables(book), self.library.leaves(book))
            for name, book in self.books.items()
        ]
        self.rng.shuffle(rows)
        return rows


def state_of(journal):
    """All that a journal tells of its state."""
    contents = {stamp: journal.content(stamp) for stamp in journal.stamps()}
    return (journal.state_number(), journal.files(), contents, journal.block_count())


def plain_state(plain):
    return (plain.number, plain.rows, plain.contents, plain.block_count())
