"""Points 19 to 23 and 26: books, changes, stamps and their holders."""

import random
import unittest
from copy import deepcopy

from lentpages.errors import MissingError, NoBook, PagesError
from lentpages.library import Library
from lentpages.shapes import Shape
from tests.plain_library import PAGE_SIZE, PlainLibrary, Twins, missing_books, random_slot

# The last one has more levels than the limit of the document.
SMALL = ([2], [5], [2, 2], [3, 2], [2, 2, 2], [2, 3, 2], [2, 2, 2, 2], [2, 2, 2, 2, 2])
LARGE = ([8, 8, 8, 8], [4, 8, 8], [8, 8], [8])

# Each method that is passed a book, with the arguments behind it.
ONE_BOOK = {
    "lend": (), "delete": (), "write": (0,), "drop_range": (0, 1), "stamp_of": (0,), "leaves": (), "tables": (),
    "lenders": (0, 0),
}


def filled_library(widths, seed, steps):
    """A library and its plain twin after random deeds."""
    twins = Twins(unittest.TestCase(), Library(Shape(widths)), widths)
    rng = random.Random(seed)
    for _ in range(steps):
        twins.random_step(rng)
    return twins


def fingerprint(library, books):
    """All that a library tells without a change."""
    found = [library.changes(), library.copies(), library.stamps(), library.table_count()]
    found.extend([(library.leaves(book), library.tables(book)) for book in sorted(books)])
    found.append([library.holders(stamp) for stamp in range(library.changes() + 2)])
    return found


class RandomDeedsTest(unittest.TestCase):
    def test_small_shapes_after_each_deed(self):
        for number, widths in enumerate(SMALL):
            for seed in range(4):
                rng = random.Random(10 * number + seed)
                twins = Twins(self, Library(Shape(widths)), widths)
                for _ in range(60):
                    twins.random_step(rng)
                    twins.compare()
                    twins.do("growth", [random_slot(rng, twins.plain) for _ in range(rng.randint(0, 6))])
                    slots = twins.slots()
                    twins.compare_slots(rng.sample(slots, min(len(slots), 8)))

    def test_large_shapes(self):
        for number, widths in enumerate(LARGE):
            rng = random.Random(number)
            twins = Twins(self, Library(Shape(widths)), widths)
            twins.do("create")
            for page in sorted(rng.sample(range(twins.plain.page_count), twins.plain.page_count // 3)):
                twins.library.write(1, page)
                twins.plain.write(1, page)
            for _ in range(25):
                twins.random_step(rng, most=4)
            twins.compare_slots(rng.sample(twins.slots(), min(20, len(twins.slots()))))
            for name in ("changes", "copies", "stamps", "table_count"):
                twins.do(name)
            for book in twins.plain.books:
                twins.do("leaves", book)
                twins.do("tables", book)

    def test_two_libraries_know_nothing_of_each_other(self):
        shape = Shape([2, 2])
        first = Library(shape)
        first.write(first.create(), 1)
        second = Library(shape)
        self.assertEqual(fingerprint(second, []), [0, 0, [], 0, [[], []]])
        self.assertEqual(second.create(), 1)
        self.assertEqual(second.write(1, 2), ("begin", 0, 1))
        self.assertEqual((first.leaves(1), second.leaves(1)), ([(1, 1)], [(2, 1)]))


class MissingBookTest(unittest.TestCase):
    def check(self, library, book, name, *args):
        with self.assertRaises(NoBook) as caught:
            getattr(library, name)(*args)
        self.assertEqual(vars(caught.exception), {"book": book})
        self.assertIsInstance(caught.exception, MissingError)
        self.assertIsInstance(caught.exception, PagesError)

    def test_each_method_with_each_missing_book(self):
        for seed in range(6):
            twins = filled_library([2, 3], seed, 40)
            library, plain = twins.library, twins.plain
            if not plain.books:
                twins.do("create")
            before = fingerprint(library, plain.books)
            book = min(plain.books)
            for missing in missing_books(plain):
                for name, rest in ONE_BOOK.items():
                    self.check(library, missing, name, missing, *rest)
                self.check(library, missing, "lenders", missing, 2, 0)
                self.check(library, missing, "drop_range", missing, 1, 1)
                for name in ("copy_page", "tell_apart"):
                    self.check(library, missing, name, missing, 0, book, 1)
                    self.check(library, missing, name, book, 0, missing, 0)
                    self.check(library, missing, name, missing, 1, missing, 1)
                self.check(library, missing, "growth", [(book, 0), (missing, 0), (missing + 90, 0)])
            self.assertEqual(fingerprint(library, plain.books), before)
            self.assertEqual(library.create(), plain.made + 1)

    def test_two_missing_books(self):
        library = Library(Shape([3]))
        library.create()
        for first, second in ((0, 2), (2, 0), (5, 4), (2, 3)):
            self.check(library, first, "copy_page", first, 0, second, 1)
            self.check(library, first, "tell_apart", first, 0, second, 1)
            self.check(library, first, "growth", [(1, 0), (first, 0), (second, 0)])

    def test_a_copy_to_a_missing_book_is_no_change(self):
        library = Library(Shape([3]))
        library.create()
        library.write(1, 0)
        self.check(library, 2, "copy_page", 1, 0, 2, 0)
        self.assertEqual(library.write(1, 0), ("rename", 1, 2))


class NumbersTest(unittest.TestCase):
    def test_books_and_changes_have_numbers_of_their_own(self):
        library = Library(Shape([2]))
        self.assertEqual([library.create(), library.create(), library.lend(1)], [1, 2, 3])
        self.assertEqual([library.delete(3), library.delete(1), library.changes()], [[], [], 0])
        self.assertEqual([library.create(), library.lend(4), library.changes()], [4, 5, 0])
        self.assertEqual(library.write(2, 0), ("begin", 0, 1))
        self.assertEqual(library.write(5, 1), ("begin", 0, 2))
        self.assertEqual(library.write(2, 0), ("rename", 1, 3))
        self.assertEqual(library.changes(), 3)
        self.assertEqual(library.delete(2), [3])
        self.assertEqual(library.changes(), 3)
        self.assertEqual(library.restore([], []), 6)

    def test_begin_copy_and_rename(self):
        library = Library(Shape([2]))
        library.create()
        self.assertEqual(library.write(1, 0), ("begin", 0, 1))
        self.assertEqual(library.write(1, 0), ("rename", 1, 2))
        library.lend(1)
        library.lend(2)
        self.assertEqual([library.write(1, 0), library.copies()], [("copy", 2, 3), 1])
        self.assertEqual([library.write(2, 0), library.copies()], [("copy", 2, 4), 2])
        self.assertEqual([library.write(3, 0), library.copies()], [("rename", 2, 5), 2])
        for book in (3, 2, 1):
            library.delete(book)
        self.assertEqual(library.copies(), 2)

    def test_two_holders_in_one_book_copy(self):
        library = Library(Shape([2]))
        library.create()
        library.write(1, 0)
        library.copy_page(1, 0, 1, 1)
        self.assertEqual(library.write(1, 1), ("copy", 1, 3))
        self.assertEqual(library.copies(), 1)
        self.assertEqual(library.write(1, 0), ("rename", 1, 4))


class DropTest(unittest.TestCase):
    def library(self):
        """A book with the stamps 1 to 4 at the pages 0, 2, 3 and 5."""
        library = Library(Shape([2, 3]))
        library.create()
        for page in (0, 2, 3, 5):
            library.write(1, page)
        return library

    def test_each_page_with_a_stamp_is_one_change(self):
        for start, end, lost in ((0, 0, []), (6, 6, []), (1, 2, []), (0, 1, [1]), (0, 6, [1, 2, 3, 4]), (1, 4, [2, 3])):
            library = self.library()
            self.assertEqual(library.drop_range(1, start, end), lost)
            self.assertEqual(library.changes(), 4 + len(lost))
            self.assertEqual(library.drop_range(1, start, end), [])
            self.assertEqual(library.changes(), 4 + len(lost))

    def test_changes_happen_in_ascending_order(self):
        library = self.library()
        library.drop_range(1, 0, 3)
        self.assertEqual(library.tables(1), [(0, 0, 6), (1, 3, 4)])
        library.write(1, 1)
        library.drop_range(1, 1, 6)
        self.assertEqual((library.tables(1), library.changes()), ([], 10))

    def test_lost_stamps_are_ascending_and_each_stands_once(self):
        library = Library(Shape([6]))
        library.create()
        for page in (5, 3, 1):
            library.write(1, page)
        library.copy_page(1, 5, 1, 0)
        library.copy_page(1, 1, 1, 4)
        book = library.lend(1)
        self.assertEqual(library.drop_range(1, 0, 6), [])
        library.write(book, 3)
        self.assertEqual(library.stamps(), [1, 3, library.changes()])
        self.assertEqual(library.drop_range(book, 0, 5), [3, library.changes() - 4])
        self.assertEqual(library.delete(book), [1])

    def test_delete_returns_the_lost_stamps(self):
        library = self.library()
        library.copy_page(1, 5, 1, 1)
        library.lend(1)
        library.write(1, 0)
        self.assertEqual(library.delete(2), [1])
        self.assertEqual(library.delete(1), [2, 3, 4, 6])
        self.assertEqual((library.stamps(), library.table_count(), library.changes()), ([], 0, 6))


class CopyTest(unittest.TestCase):
    def library(self):
        """Two books: the first with stamp 1 and 2 at the pages 0 and 1, the second with stamp 3 at page 0."""
        library = Library(Shape([2, 2]))
        library.create()
        library.create()
        for book, page in ((1, 0), (1, 1), (2, 0)):
            library.write(book, page)
        return library

    def test_counted_changes_and_lost_stamps(self):
        rows = (
            ((1, 0, 1, 0), [], 0), ((1, 3, 1, 3), [], 0), ((1, 0, 1, 3), [], 1), ((1, 0, 1, 1), [2], 2),
            ((1, 3, 1, 0), [1], 1), ((1, 3, 1, 2), [], 0), ((1, 0, 2, 0), [3], 2), ((2, 0, 1, 1), [2], 2),
            ((2, 3, 1, 1), [2], 1), ((1, 1, 2, 1), [], 1), ((2, 3, 1, 3), [], 0),
        )
        for args, lost, changes in rows:
            library = self.library()
            stamp = library.stamp_of(*args[:2])
            self.assertEqual(library.copy_page(*args), lost)
            self.assertEqual(library.changes(), 3 + changes)
            self.assertEqual([library.stamp_of(*args[:2]), library.stamp_of(*args[2:])], [stamp, stamp])

    def test_onto_the_same_page_of_a_lent_book(self):
        library = self.library()
        lent = library.lend(1)
        self.assertEqual(library.copy_page(1, 0, lent, 0), [])
        self.assertEqual((library.changes(), library.leaves(lent)), (5, [(0, 1), (1, 2)]))
        self.assertEqual(library.tables(lent), [(0, 0, 5), (1, 0, 5)])
        self.assertEqual(library.tables(1), [(0, 0, 2), (1, 0, 2)])
        self.assertEqual([library.lenders(1, level, 0) for level in range(3)], [1, 1, 2])

    def test_the_number_of_a_copy_is_no_stamp(self):
        library = self.library()
        library.copy_page(1, 0, 1, 3)
        self.assertEqual((library.changes(), library.holders(4), library.stamps()), (4, [], [1, 2, 3]))
        self.assertEqual(library.holders(1), [(1, 0), (1, 3)])
        self.assertEqual(library.copies(), 0)

    def test_a_copied_stamp_is_not_lost_with_its_target(self):
        library = self.library()
        library.copy_page(1, 0, 2, 0)
        self.assertEqual(library.copy_page(1, 0, 2, 0), [])
        self.assertEqual(library.copy_page(2, 0, 1, 0), [])
        self.assertEqual((library.holders(1), library.changes()), ([(1, 0), (2, 0)], 9))


class QuestionsTest(unittest.TestCase):
    def test_numbers_that_are_no_stamp(self):
        library = Library(Shape([2, 2]))
        library.create()
        self.assertEqual([library.holders(0), library.holders(1), library.stamps(), library.changes()], [[], [], [], 0])
        library.write(1, 0)
        library.write(1, 0)
        self.assertEqual([library.holders(stamp) for stamp in (0, 1, 2, 3, 99)], [[], [], [(1, 0)], [], []])
        self.assertEqual(library.stamps(), [2])
        library.drop_range(1, 0, 4)
        self.assertEqual([library.holders(stamp) for stamp in range(5)], [[]] * 5)

    def test_growth(self):
        library = Library(Shape([4]))
        library.create()
        library.write(1, 0)
        library.copy_page(1, 0, 1, 1)
        library.write(1, 2)
        self.assertEqual(library.lend(1), 2)
        rows = (
            ([], 0), ([(1, 3)], 1), ([(1, 3), (1, 3)], 1), ([(1, 3), (2, 3)], 2), ([(1, 2)], 1), ([(1, 2), (1, 2)], 1),
            ([(1, 2), (2, 2)], 1), ([(2, 2), (1, 2), (2, 2)], 1), ([(1, 0), (1, 1), (2, 0)], 3),
            ([(1, 0), (1, 1), (2, 0), (2, 1)], 3), ([(1, 0), (1, 0), (1, 1), (1, 1)], 2),
        )
        before = fingerprint(library, [1, 2])
        for slots, wanted in rows:
            given = list(slots)
            self.assertEqual(library.growth(given), wanted)
            self.assertEqual(given, slots)
            self.assertEqual(fingerprint(library, [1, 2]), before)

    def test_growth_counts_what_the_writes_then_do(self):
        for seed in range(60):
            twins = filled_library([2, 3], seed, 25)
            slots = twins.slots()
            if slots:
                rng = random.Random(seed)
                chosen = [rng.choice(slots) for _ in range(12)]
                grown = twins.library.growth(chosen)
                actions = [twins.library.write(book, page)[0] for book, page in chosen]
                self.assertEqual(grown, len(actions) - actions.count("rename"))

    def test_lists_are_new_each_time(self):
        library = Library(Shape([2, 2]))
        library.create()
        library.write(1, 0)
        library.write(1, 3)
        for name, args in (("leaves", (1,)), ("tables", (1,)), ("holders", (1,)), ("stamps", ())):
            wanted = list(getattr(library, name)(*args))
            changed = getattr(library, name)(*args)
            changed.append(None)
            del changed[0]
            self.assertEqual(getattr(library, name)(*args), wanted)

    def test_a_shape_that_serves_two_libraries_stays(self):
        widths = [2, 2]
        shape = Shape(widths)
        library = Library(shape)
        widths[0] = 7
        library.create()
        library.write(1, 3)
        self.assertEqual((library.tables(1), shape.widths), ([(0, 0, 1), (1, 2, 1)], (2, 2)))


class TellApartTest(unittest.TestCase):
    def test_equal_stamps(self):
        library = Library(Shape([3]))
        library.create()
        self.assertIsNone(library.tell_apart(1, 0, 1, 0))
        self.assertIsNone(library.tell_apart(1, 0, 1, 2))
        library.write(1, 0, offset=3)
        self.assertIsNone(library.tell_apart(1, 0, 1, 0))
        library.copy_page(1, 0, 1, 2)
        self.assertIsNone(library.tell_apart(1, 0, 1, 2))
        library.lend(1)
        self.assertIsNone(library.tell_apart(1, 0, 2, 2))

    def test_the_larger_stamp_and_its_offset(self):
        library = Library(Shape([3]))
        library.create()
        library.write(1, 0, offset=3)
        library.write(1, 1, offset=1, length=2)
        self.assertEqual(library.tell_apart(1, 0, 1, 1), (2, 1))
        self.assertEqual(library.tell_apart(1, 1, 1, 0), (2, 1))
        self.assertEqual(library.tell_apart(1, 2, 1, 0), (1, 3))
        library.lend(1)
        library.write(2, 0)
        self.assertEqual(library.tell_apart(1, 0, 2, 0), (3, 0))
        library.copy_page(1, 0, 2, 1)
        self.assertEqual(library.tell_apart(2, 1, 2, 0), (3, 0))
        self.assertEqual(library.tell_apart(2, 1, 1, 1), (2, 1))

    def test_a_stamp_that_was_lost_is_known_again(self):
        library = Library(Shape([2]))
        library.create()
        library.write(1, 0, offset=2)
        kept = (library.tables(1), library.leaves(1))
        self.assertEqual(library.delete(1), [1])
        library.restore(*kept)
        self.assertEqual(library.tell_apart(2, 0, 2, 1), (1, 2))

    def test_the_deeds_done_again(self):
        for seed in range(12):
            twins = filled_library([2, 2], seed, 30)
            slots = twins.slots()
            for book, page in slots:
                for other, other_page in slots:
                    told = twins.library.tell_apart(book, page, other, other_page)
                    pages = [(book, page), (other, other_page)]
                    self.check_again(twins, pages, told)

    def check_again(self, twins, pages, told):
        """Checks that the pages differ just at the offset if only the byte of that write is 1."""
        rows = [twins.plain.books[book][page] for book, page in pages]
        if told is None:
            self.assertEqual(rows[0][2], rows[1][2])
            return
        first, second = [twins.plain.bytes_of(book, page, *told) for book, page in pages]
        self.assertEqual([at for at in range(PAGE_SIZE) if first[at] != second[at]], [told[1]])


class PlainLibraryTest(unittest.TestCase):
    def test_the_bytes_of_the_plain_library(self):
        """The numbers of the writes stand for the bytes that the same deeds leave."""
        plain = PlainLibrary([2])
        plain.create()
        plain.write(1, 0, offset=1, length=2)
        plain.write(1, 0, offset=2, length=2)
        self.assertEqual(plain.bytes_of(1, 0, 1, 1), [0, 1, 0, 0])
        self.assertEqual(plain.bytes_of(1, 0, 1, 2), [0, 0, 0, 0])
        self.assertEqual(plain.bytes_of(1, 0, 2, 2), [0, 0, 1, 0])
        rows = deepcopy(plain.books)
        plain.lend(1)
        plain.write(2, 0)
        self.assertEqual(plain.books[1], rows[1])


if __name__ == "__main__":
    unittest.main()
