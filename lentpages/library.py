"""Books whose pages have stamps, and whose tables and stamps are lent until a page changes."""

from lentpages.books import Book
from lentpages.errors import NoBook
from lentpages.holders import Holders


class Library:
    """Keeps books and numbers the changes of their pages. A stamp names the change that last wrote a page."""

    def __init__(self, shape):
        self._shape = shape
        self._books = {}
        self._last_book = 0
        self._change_count = 0
        self._copy_count = 0
        self._holders = Holders()
        # The offset of every write is kept, because a restored book may bring back a stamp that was lost.
        self._offsets = {}

    def create(self):
        """Makes a book in which all stamps are 0."""
        return self._shelve(Book(self._shape))

    def lend(self, book):
        """Makes a book with the same stamps and tables."""
        return self._shelve(self._find(book).twin())

    def restore(self, tables, leaves):
        """Makes a book from the tables and leaves that a book once had."""
        restored = Book(self._shape)
        restored.refill(tables, leaves)
        return self._shelve(restored)

    def delete(self, book):
        """Removes the book and returns the stamps that have lost their last holder."""
        leaves = self._find(book).leaves()
        del self._books[book]
        for page, stamp in leaves:
            self._holders.leave(stamp, (book, page))
        return self._holders.lost_among([leaf[1] for leaf in leaves])

    def write(self, book, page, *, offset=0, length=1):
        """Writes to a page; returns the action, the earlier stamp and the new one."""
        action, old, new = self.next_write(book, page)
        if action == "copy":
            self._copy_count += 1
        self._offsets[new] = offset
        self._change(book, page, new)
        return (action, old, new)

    def next_write(self, book, page):
        """What a write to the page would return now."""
        old = self._find(book).stamp_of(page)
        return (_action_of(old, self._holders.holder_count(old)), old, self._change_count + 1)

    def drop_range(self, book, start, end):
        """Sets the stamps of the range to 0 and returns those that have lost their last holder."""
        return self._holders.lost_among(self._drop(book, start, end))

    def copy_page(self, book, page, target, target_page):
        """Gives the target page the stamp of a page; returns the stamps that have lost their last holder."""
        stamp = self._find(book).stamp_of(page)
        if (book, page) == (target, target_page):
            return []
        dropped = self._drop(target, target_page, target_page + 1)
        if stamp != 0:
            self._change(target, target_page, stamp)
        return self._holders.lost_among(dropped)

    def stamp_of(self, book, page):
        """The stamp of the page."""
        return self._find(book).stamp_of(page)

    def leaves(self, book):
        """The pairs (page, stamp) of the pages of the book whose stamp is not 0."""
        return self._find(book).leaves()

    def holders(self, stamp):
        """The pairs (book, page) of the pages that have the stamp."""
        return self._holders.holders_of(stamp)

    def holder_count(self, stamp):
        """The number of the holders of the stamp."""
        return self._holders.holder_count(stamp)

    def stamps(self):
        """The stamps that have a holder."""
        return self._holders.held_stamps()

    def changes(self):
        """The number of the last change."""
        return self._change_count

    def copies(self):
        """How many writes so far had to copy."""
        return self._copy_count

    def growth(self, slots):
        """How many of the writes to these pages (book, page) would begin or copy."""
        growing = 0
        done = {}
        taken = {}
        for book, page in slots:
            stamp = self._find(book).stamp_of(page)
            # The second write to a page finds a stamp that only this page has.
            if (book, page) not in done:
                done[(book, page)] = True
                others = taken.get(stamp, 0)
                taken[stamp] = others + 1
                if _action_of(stamp, self._holders.holder_count(stamp) - others) != "rename":
                    growing += 1
        return growing

    def tables(self, book):
        """The tables (level, first page, number) of the book."""
        return self._find(book).tables()

    def table_count(self):
        """The number of different tables of all books."""
        return len({table for book in self._books.values() for table in book.tables()})

    def lenders(self, book, level, page):
        """How many owners the table of the level has, or the stamp behind the last level."""
        chosen = self._find(book)
        if level == self._shape.levels:
            return self._stamp_lenders(chosen.stamp_of(page))
        number = chosen.table_number(level, page)
        if number == 0:
            return 0
        sharers = [other for other in self._books.values() if other.table_number(level, page) == number]
        if level == 0:
            return len(sharers)
        return len({other.table_number(level - 1, page) for other in sharers})

    def tell_apart(self, book, page, other, other_page):
        """A stamp and the offset of its write that tell the pages apart, or None if their stamps are equal."""
        stamp = self._find(book).stamp_of(page)
        other_stamp = self._find(other).stamp_of(other_page)
        if stamp == other_stamp:
            return None
        larger = max(stamp, other_stamp)
        return (larger, self._offsets[larger])

    def _find(self, book):
        """The book of that number."""
        if book not in self._books:
            raise NoBook(book)
        return self._books[book]

    def _shelve(self, new_book):
        """Gives a book the next number, and its stamps new holders."""
        self._last_book += 1
        self._books[self._last_book] = new_book
        for page, stamp in new_book.leaves():
            self._holders.enter(stamp, (self._last_book, page))
        return self._last_book

    def _change(self, book, page, stamp):
        """Does the next change: it gives a page of a book a stamp, or none with stamp 0."""
        self._change_count += 1
        changed = self._books[book]
        self._holders.leave(changed.stamp_of(page), (book, page))
        changed.give(page, stamp, self._change_count)
        self._holders.enter(stamp, (book, page))

    def _drop(self, book, start, end):
        """Drops the pages of the range and returns the stamps that they had."""
        changed = self._find(book)
        dropped = []
        for page in range(start, end):
            stamp = changed.stamp_of(page)
            if stamp != 0:
                dropped.append(stamp)
                self._change(book, page, 0)
        return dropped

    def _stamp_lenders(self, stamp):
        """How many pairs of a table of the last level and a page hold the stamp."""
        last = self._shape.levels - 1
        pairs = self._holders.holders_of(stamp)
        return len({(page, self._books[book].table_number(last, page)) for book, page in pairs})


def _action_of(stamp, holders):
    """What a write does to a page whose stamp has so many holders."""
    if stamp == 0:
        return "begin"
    return "copy" if holders >= 2 else "rename"
