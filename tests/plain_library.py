"""A plain library: for each book the stamp, the last change and the bytes of each page, and what follows from them."""

from math import prod

from lentpages.errors import NoBook
from tests.plain import outcome

PAGE_SIZE = 4


class PlainLibrary:
    """Keeps a list of rows [stamp, number of the last change, bytes] for each book, one row for each page.

    Each byte is the number of the write that wrote it last, or 0.
    """

    def __init__(self, widths):
        self.widths = tuple(widths)
        self.page_count = prod(widths)
        self.books = {}
        self.made = 0
        self.number = 0
        self.copied = 0
        self.offsets = {}

    def find(self, book):
        if book not in self.books:
            raise NoBook(book)
        return self.books[book]

    def shelve(self, rows):
        self.made += 1
        self.books[self.made] = [[stamp, number, list(data)] for stamp, number, data in rows]
        return self.made

    def create(self):
        return self.shelve([(0, 0, [0] * PAGE_SIZE)] * self.page_count)

    def lend(self, book):
        return self.shelve(self.find(book))

    def snapshot(self, book):
        """The rows of a book, for restore_rows."""
        return [(stamp, number, list(data)) for stamp, number, data in self.find(book)]

    def restore_rows(self, rows):
        return self.shelve(rows)

    def delete(self, book):
        self.find(book)
        before = self.stamps()
        del self.books[book]
        return self.lost(before)

    def lost(self, before):
        """The stamps that had a holder and have none now."""
        return sorted(set(before) - set(self.stamps()))

    def change(self, book, page, stamp, data):
        self.number += 1
        self.books[book][page] = [stamp, self.number, list(data)]

    def write(self, book, page, *, offset=0, length=1):
        old, _, data = self.find(book)[page]
        action = "begin"
        if old:
            action = "copy" if len(self.holders(old)) > 1 else "rename"
        self.copied += action == "copy"
        new = self.number + 1
        self.offsets[new] = offset
        self.change(book, page, new, data[:offset] + [new] * length + data[offset + length:])
        return (action, old, new)

    def drop(self, book, start, end):
        for page in range(start, end):
            if self.books[book][page][0]:
                self.change(book, page, 0, [0] * PAGE_SIZE)

    def drop_range(self, book, start, end):
        self.find(book)
        before = self.stamps()
        self.drop(book, start, end)
        return self.lost(before)

    def copy_page(self, book, page, target, target_page):
        stamp, _, data = self.find(book)[page]
        self.find(target)
        if (book, page) == (target, target_page):
            return []
        before = self.stamps()
        self.drop(target, target_page, target_page + 1)
        if stamp:
            self.change(target, target_page, stamp, data)
        return self.lost(before)

    def stamp_of(self, book, page):
        return self.find(book)[page][0]

    def leaves(self, book):
        return [(page, row[0]) for page, row in enumerate(self.find(book)) if row[0]]

    def holders(self, stamp):
        found = [(book, page) for book, rows in self.books.items() for page, row in enumerate(rows) if row[0] == stamp]
        return sorted(found) if stamp else []

    def stamps(self):
        return sorted({row[0] for rows in self.books.values() for row in rows if row[0]})

    def changes(self):
        return self.number

    def copies(self):
        return self.copied

    def growth(self, slots):
        """Does the writes on a copy of all stamps."""
        for book, _ in slots:
            self.find(book)
        stamps = {(book, page): row[0] for book, rows in self.books.items() for page, row in enumerate(rows)}
        grown = 0
        for number, slot in enumerate(slots):
            old = stamps[slot]
            grown += old == 0 or list(stamps.values()).count(old) > 1
            stamps[slot] = -1 - number
        return grown

    def table(self, book, level, page):
        """The table of the level on the path of the page, or None."""
        size = prod(self.widths[level:])
        first = page // size * size
        rows = self.books[book][first:first + size]
        if not any([row[0] for row in rows]):
            return None
        return (level, first, max([row[1] for row in rows]))

    def tables(self, book):
        self.find(book)
        found = []
        for level in range(len(self.widths)):
            size = prod(self.widths[level:])
            found.extend([self.table(book, level, page) for page in range(0, self.page_count, size)])
        return sorted([table for table in found if table])

    def table_count(self):
        return len({table for book in self.books for table in self.tables(book)})

    def lenders(self, book, level, page):
        self.find(book)
        levels = len(self.widths)
        if level == levels:
            pairs = self.holders(self.stamp_of(book, page))
            return len({(self.table(other, levels - 1, at), at) for other, at in pairs})
        table = self.table(book, level, page)
        if table is None:
            return 0
        sharers = [other for other in self.books if self.table(other, level, page) == table]
        return len({self.table(other, level - 1, page) for other in sharers}) if level else len(sharers)

    def tell_apart(self, book, page, other, other_page):
        stamp = self.find(book)[page][0]
        larger = max(stamp, self.find(other)[other_page][0])
        if stamp == self.find(other)[other_page][0]:
            return None
        return (larger, self.offsets[larger])

    def bytes_of(self, book, page, stamp, offset):
        """The bytes of a page if the byte at the offset in the write of the stamp is 1 and all others are 0."""
        data = self.books[book][page][2]
        return [int(at == offset and number == stamp) for at, number in enumerate(data)]


def missing_books(plain):
    """Numbers of books that do not exist: 0, deleted ones, the next one and a later one."""
    gone = [book for book in range(1, plain.made + 1) if book not in plain.books]
    return [0, plain.made + 1, plain.made + 7] + gone


def random_book(rng, plain):
    """Mostly a book that exists."""
    if plain.books and rng.random() < 0.93:
        return rng.choice(sorted(plain.books))
    return rng.choice(missing_books(plain))


def random_slot(rng, plain):
    """A pair of a book and a page; a few pages are chosen more often than all others."""
    page = rng.choice((0, plain.page_count - 1, plain.page_count // 2, rng.randrange(plain.page_count)))
    return (random_book(rng, plain), page)


def random_deed(rng, plain, most=6):
    """A deed for a library: its name, arguments and keyword arguments. Not restore: it needs lists from before."""
    names = ["write"] * 9 + ["copy_page"] * 5 + ["drop_range"] * 2 + ["lend"] * 3 + ["delete"] * 2 + ["create"]
    name = rng.choice(names)
    if len(plain.books) >= most and name in ("create", "lend"):
        name = "delete"
    if name == "create":
        return (name, (), {})
    if name in ("lend", "delete"):
        return (name, (random_book(rng, plain),), {})
    if name == "copy_page":
        return (name, random_slot(rng, plain) + random_slot(rng, plain), {})
    if name == "drop_range":
        ends = sorted([rng.randint(0, plain.page_count), rng.randint(0, plain.page_count)])
        start, end = rng.choice((ends, ends, (ends[0], ends[0]), (0, plain.page_count)))
        if start < plain.page_count and rng.random() < 0.5:
            end = start + 1
        return (name, (random_book(rng, plain), start, end), {})
    offset = rng.randrange(PAGE_SIZE)
    length = rng.randint(1, PAGE_SIZE - offset)
    more = rng.choice(({"offset": offset, "length": length}, {"offset": offset}, {"length": length}, {}))
    return (name, random_slot(rng, plain), more)


class Twins:
    """A library and a plain one that are told the same deeds; each difference fails the test."""

    def __init__(self, test, library, widths):
        self.test = test
        self.library = library
        self.plain = PlainLibrary(widths)
        self.levels = len(widths)
        # Lists of tables and leaves that were returned, and the rows of the plain book at that moment.
        self.kept = []
        self.log = []

    def do(self, name, *args, **more):
        """Does a deed on both, or asks both a question; returns the outcome."""
        found = outcome(getattr(self.library, name), *args, **more)
        wanted = outcome(getattr(self.plain, name), *args, **more)
        self.test.assertEqual(found, wanted, (name, args, more, self.log[-30:]))
        self.log.append((name, args, more))
        return found[1]

    def keep(self, book):
        """Keeps the lists of a book for a later restore."""
        self.kept.append((self.library.tables(book), self.library.leaves(book), self.plain.snapshot(book)))

    def restore(self, number):
        """Restores lists that were kept; returns the number of the book."""
        tables, leaves, rows = self.kept[number]
        before = (list(tables), list(leaves))
        book = self.library.restore(tables, leaves)
        self.test.assertEqual(book, self.plain.restore_rows(rows))
        self.test.assertEqual((tables, leaves), before)
        self.test.assertEqual((self.library.tables(book), self.library.leaves(book)), before)
        self.log.append(("restore", (tables, leaves), {}))
        return book

    def random_step(self, rng, most=6):
        """A random deed on both; now and then a book is kept, or one is restored."""
        if self.plain.books and rng.random() < 0.1:
            self.keep(rng.choice(sorted(self.plain.books)))
        if self.kept and len(self.plain.books) < most and rng.random() < 0.1:
            self.restore(rng.randrange(len(self.kept)))
        else:
            name, args, more = random_deed(rng, self.plain, most)
            self.do(name, *args, **more)

    def slots(self):
        """All pages of all books."""
        return [(book, page) for book in sorted(self.plain.books) for page in range(self.plain.page_count)]

    def compare(self):
        """Compares all stamps, holders and tables."""
        for name in ("changes", "copies", "stamps", "table_count"):
            self.do(name)
        for stamp in range(self.plain.number + 2):
            self.do("holders", stamp)
        for book in self.plain.books:
            self.do("leaves", book)
            self.do("tables", book)

    def compare_slots(self, slots):
        """Compares the stamps and lenders of these pages, and how each is told from the next one."""
        for (book, page), (other, other_page) in zip(slots, slots[1:] + slots[:1]):
            self.do("stamp_of", book, page)
            self.do("tell_apart", book, page, other, other_page)
            for level in range(self.levels + 1):
                self.do("lenders", book, level, page)
