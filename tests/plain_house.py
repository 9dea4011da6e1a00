"""A plain house: a table of marks for each space, and for each slot its bytes, which are copied at once.

Stamps and tables are those of a plain library. There are no frames, places and caches.
"""

from lentpages.errors import (
    BadRange, BeyondFile, Denied, FileExists, FileInUse, NoBlocks, NoCheckpoint, NoFile, NoHole, NoRoom, NoSpace,
    PagesError, Unmapped,
)
from lentpages.folding import FoldedTable
from lentpages.regions import Regions
from lentpages.shapes import Shape
from tests.plain import PlainMarks
from tests.plain_journal import parts
from tests.plain_library import PlainLibrary


class PlainHouse:
    """Keeps [marks, book] for each space and [size, book] for each file."""

    def __init__(self, *, widths=(4, 4), page_size=4, limit=15, blocks=200):
        self.library = PlainLibrary(widths)
        self.page_count = self.library.page_count
        self.page_size = page_size
        self.limit = limit
        self.blocks = blocks
        self.rooms = {}
        self.papers = {}
        self.bytes = {}
        self.kept = {}
        self.last_checkpoint = 0
        # The state that the device keeps: its number, its parts, and rows (name, size, rows of the book, bytes).
        self.state = (0, set(), [])

    # Slots.

    def data(self, slot):
        return list(self.bytes.get(slot, [0] * self.page_size))

    def lend(self, book):
        lent = self.library.lend(book)
        for page in range(self.page_count):
            self.bytes[(lent, page)] = self.data((book, page))
        return lent

    def drop(self, book, start, end):
        self.library.drop_range(book, start, end)
        for page in range(start, end):
            self.bytes.pop((book, page), None)

    def put(self, slot, offset, data):
        self.library.write(*slot, offset=offset, length=len(data))
        changed = self.data(slot)
        changed[offset:offset + len(data)] = data
        self.bytes[slot] = changed

    def check_room(self, slots):
        """Does the writes on a table of all stamps, and counts the different ones."""
        stamps = {(book, page): row[0] for book, rows in self.library.books.items() for page, row in enumerate(rows)}
        for number, slot in enumerate(slots):
            stamps[slot] = -1 - number
        needed = len(set(stamps.values()) - {0})
        if needed > self.limit:
            raise NoRoom(needed, self.limit)

    def cut(self, owner, address, length, slot_of):
        """The pairs (slot, byte number) of bytes, one by one."""
        pages = range(address // self.page_size, (address + length - 1) // self.page_size + 1) if length else ()
        slots = {page: slot_of(owner, page) for page in pages}
        return [(slots[at // self.page_size], at % self.page_size) for at in range(address, address + length)]

    def put_bytes(self, places, data):
        """Writes bytes to pairs (slot, byte number); each run in one page is one write."""
        starts = [at for at in range(len(places)) if at == 0 or places[at][1] == 0]
        self.check_room([places[at][0] for at in starts])
        for start, end in zip(starts, starts[1:] + [len(places)]):
            slot, offset = places[start]
            self.put(slot, offset, data[start:end])

    # Spaces.

    def room(self, space):
        if space not in self.rooms:
            raise NoSpace(space)
        return self.rooms[space]

    def add_room(self, marks, book):
        number = min(set(range(len(self.rooms) + 1)) - set(self.rooms))
        self.rooms[number] = [marks, book]
        return number

    def create_space(self):
        return self.add_room(PlainMarks(self.page_count), self.library.create())

    def fork_space(self, space):
        marks, book = self.room(space)
        return self.add_room(self.marks_like(marks), self.lend(book))

    def marks_like(self, marks):
        twin = PlainMarks(self.page_count)
        twin.marks = list(marks.marks)
        return twin

    def delete_space(self, space):
        self.library.delete(self.room(space)[1])
        del self.rooms[space]

    def spaces(self):
        return sorted(self.rooms)

    def unmap(self, space, start, length):
        marks, book = self.room(space)
        marks.unassign(start, start + length)
        self.drop(book, start, start + length)

    def map_plain(self, space, start, length, rights):
        self.unmap(space, start, length)
        self.room(space)[0].assign(start, start + length, rights)

    def check_paper(self, space, start, length, name, first):
        self.room(space)[0].check(start, start + length)
        size, book = self.paper(name)
        for index in range(first, first + length):
            if index >= size:
                raise BeyondFile(name, index)
        return book

    def map_shared(self, space, start, length, rights, name, first):
        self.check_paper(space, start, length, name, first)
        self.unmap(space, start, length)
        self.room(space)[0].assign(start, start + length, rights, file=name, index=first)

    def map_private(self, space, start, length, rights, name, first):
        source = self.check_paper(space, start, length, name, first)
        self.map_plain(space, start, length, rights)
        book = self.room(space)[1]
        for number in range(length):
            self.library.copy_page(source, first + number, book, start + number)
            self.bytes[(book, start + number)] = self.data((source, first + number))

    def protect(self, space, start, length, rights):
        self.room(space)[0].protect(start, start + length, rights)

    def regions(self, space):
        return self.room(space)[0].runs()

    def find_hole(self, space, length, *, least=0):
        marks = self.room(space)[0].marks
        for start in range(least, self.page_count - length + 1):
            if not any(marks[start:start + length]):
                return start
        raise NoHole(length)

    def walk(self, space, page):
        regions = Regions(self.page_count)
        for start, end, rights, file, index in self.regions(space):
            regions.assign(start, end, rights, file=file, index=index)
        return FoldedTable(Shape(self.library.widths), regions).walk(page)

    # Files.

    def paper(self, name):
        if name not in self.papers:
            raise NoFile(name)
        return self.papers[name]

    def check_new(self, name):
        if name in self.papers:
            raise FileExists(name)

    def check_size(self, size):
        if size < 0 or size > self.page_count:
            raise BadRange(0, size)

    def create_file(self, name, size):
        self.check_new(name)
        self.check_size(size)
        self.papers[name] = [size, self.library.create()]

    def copy_file(self, name, new_name):
        size, book = self.paper(name)
        self.check_new(new_name)
        self.papers[new_name] = [size, self.lend(book)]

    def resize_file(self, name, size):
        old_size, book = self.paper(name)
        self.check_size(size)
        self.drop(book, min(size, old_size), old_size)
        self.papers[name][0] = size

    def delete_file(self, name):
        _, book = self.paper(name)
        if any([mark and mark[1] == name for marks, _ in self.rooms.values() for mark in marks.marks]):
            raise FileInUse(name)
        self.library.delete(book)
        del self.papers[name]

    def files(self):
        return [(name, size) for name, (size, _) in sorted(self.papers.items())]

    # Access.

    def slot(self, space, page, right=""):
        marks, book = self.room(space)
        if marks.marks[page] is None:
            raise Unmapped(page)
        rights, name, index = marks.marks[page]
        if right and right not in rights:
            raise Denied(page, right)
        if not name:
            return (book, page)
        if index >= self.papers[name][0]:
            raise BeyondFile(name, index)
        return (self.papers[name][1], index)

    def places(self, space, address, length, right):
        self.room(space)
        if address < 0 or address + length > self.page_count * self.page_size:
            raise BadRange(address, address + length)
        return self.cut(space, address, length, lambda owner, page: self.slot(owner, page, right))

    def file_places(self, name, address, length):
        size, book = self.paper(name)
        if address < 0 or address + length > size * self.page_size:
            raise BadRange(address, address + length)
        return self.cut(book, address, length, lambda owner, page: (owner, page))

    def read(self, space, address, length, *, right="r", hand=0):
        return [self.data(slot)[at] for slot, at in self.places(space, address, length, right)]

    def write(self, space, address, data, *, hand=0):
        self.put_bytes(self.places(space, address, len(data), "w"), data)

    def check(self, space, address, length, *, right):
        places = self.places(space, address, length, right)
        if right == "w":
            self.check_room([slot for slot, _ in places])

    def growth(self, space, address, length):
        slots = []
        for slot, at in self.places(space, address, length, "w"):
            if not slots or at == 0:
                slots.append(slot)
        return self.library.growth(slots)

    def read_file(self, name, address, length):
        return [self.data(slot)[at] for slot, at in self.file_places(name, address, length)]

    def write_file(self, name, address, data):
        self.put_bytes(self.file_places(name, address, len(data)), data)

    # Stamps.

    def page_slot(self, space, page):
        self.room(space)
        if page not in range(self.page_count):
            raise BadRange(page, page + 1)
        return self.slot(space, page)

    def stamp_at(self, space, page):
        return self.library.stamp_of(*self.page_slot(space, page))

    def file_stamp(self, name, page):
        size, book = self.paper(name)
        if page not in range(size):
            raise BadRange(page, page + 1)
        return self.library.stamp_of(book, page)

    def tell_apart(self, space, page, other, other_page):
        slot = self.page_slot(space, page)
        return self.library.tell_apart(*slot, *self.page_slot(other, other_page))

    def stamps(self):
        return self.library.stamps()

    def copies(self):
        return self.library.copies()

    def table_count(self):
        return self.library.table_count()

    def holders(self, stamp):
        pairs = self.library.holders(stamp)
        found = [(space, page) for space in sorted(self.rooms) for book, page in pairs if book == self.rooms[space][1]]
        return found + [
            (name, page) for name in sorted(self.papers) for book, page in pairs if book == self.papers[name][1]
        ]

    # Checkpoints.

    def copy_scene(self, rooms, papers):
        return (
            {number: [self.marks_like(marks), self.lend(book)] for number, (marks, book) in rooms.items()},
            {name: [size, self.lend(book)] for name, (size, book) in papers.items()},
        )

    def delete_scene(self, rooms, papers):
        for _, book in list(rooms.values()) + list(papers.values()):
            self.library.delete(book)

    def checkpoint(self):
        self.last_checkpoint += 1
        self.kept[self.last_checkpoint] = self.copy_scene(self.rooms, self.papers)
        return self.last_checkpoint

    def check_kept(self, number):
        if number not in self.kept:
            raise NoCheckpoint(number)

    def go_back(self, number):
        self.check_kept(number)
        self.delete_scene(self.rooms, self.papers)
        self.rooms, self.papers = self.copy_scene(*self.kept[number])

    def forget(self, number):
        self.check_kept(number)
        self.delete_scene(*self.kept.pop(number))

    def attempt(self, deeds):
        number = self.checkpoint()
        answers = []
        try:
            for name, *args in deeds:
                answers.append(getattr(self, name)(*args))
        except PagesError:
            self.go_back(number)
            self.forget(number)
            raise
        self.forget(number)
        return answers

    # The journal.

    def next_state(self):
        """The state that a commit would write, and its number w."""
        rows = []
        found = set()
        for name, (size, book) in sorted(self.papers.items()):
            found |= parts([(name, size, self.library.tables(book), self.library.leaves(book))])
            data = [self.data((book, page)) for page in range(self.page_count)]
            rows.append((name, size, self.library.snapshot(book), data))
        number, old_parts, _ = self.state
        new_blocks = len(found - old_parts) + 1
        needed = 2 + len(old_parts) + (1 if number else 0) + new_blocks
        if needed > self.blocks:
            raise NoBlocks(needed, self.blocks)
        return (number + 1, found, rows), new_blocks

    def sync(self):
        self.state, new_blocks = self.next_state()
        return new_blocks

    def crash(self, *, stop=None, fates=()):
        if stop is not None:
            state, new_blocks = self.next_state()
            if stop >= new_blocks + 3 or (stop == new_blocks + 2 and list(fates)[:1] == [1]):
                self.state = state
        for book in list(self.library.books):
            self.library.delete(book)
        self.rooms, self.papers, self.kept = {}, {}, {}
        for name, size, rows, data in self.state[2]:
            book = self.library.restore_rows(rows)
            self.papers[name] = [size, book]
            for page in range(self.page_count):
                self.bytes[(book, page)] = list(data[page])
