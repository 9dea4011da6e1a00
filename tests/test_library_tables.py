"""Points 24, 25 and 27: the tables of books, their owners, and books that are restored."""

import random
import unittest

from lentpages.library import Library
from lentpages.shapes import Shape
from tests.plain_library import Twins

# The last one has more levels than the limit of the document.
WIDTHS = ([4], [2, 3], [3, 2, 2], [2, 2, 2, 2], [2, 2, 2, 2, 2])


def new_twins(test, widths):
    return Twins(test, Library(Shape(widths)), widths)


class TablesTest(unittest.TestCase):
    def test_the_example_of_the_document(self):
        library = Library(Shape([2, 2]))
        first = library.create()
        library.write(first, 0)
        library.write(first, 3)
        second = library.lend(first)
        library.write(second, 3)
        self.assertEqual(library.tables(first), [(0, 0, 2), (1, 0, 1), (1, 2, 2)])
        self.assertEqual(library.tables(second), [(0, 0, 3), (1, 0, 1), (1, 2, 3)])
        self.assertEqual([library.table_count(), library.lenders(first, 1, 0)], [5, 2])

    def test_levels_and_first_pages(self):
        library = Library(Shape([2, 3, 4]))
        library.create()
        self.assertEqual((library.tables(1), library.table_count()), ([], 0))
        library.write(1, 17)
        self.assertEqual(library.tables(1), [(0, 0, 1), (1, 12, 1), (2, 16, 1)])
        library.write(1, 23)
        self.assertEqual(library.tables(1), [(0, 0, 2), (1, 12, 2), (2, 16, 1), (2, 20, 2)])
        library.write(1, 0)
        wanted = [(0, 0, 3), (1, 0, 3), (1, 12, 2), (2, 0, 3), (2, 16, 1), (2, 20, 2)]
        self.assertEqual((library.tables(1), library.table_count()), (wanted, 6))

    def test_a_drop_is_a_change_of_its_tables(self):
        library = Library(Shape([2, 2]))
        library.create()
        for page in (0, 1, 2):
            library.write(1, page)
        library.drop_range(1, 1, 2)
        self.assertEqual(library.tables(1), [(0, 0, 4), (1, 0, 4), (1, 2, 3)])
        library.drop_range(1, 0, 1)
        self.assertEqual(library.tables(1), [(0, 0, 5), (1, 2, 3)])
        library.drop_range(1, 0, 4)
        self.assertEqual((library.tables(1), library.table_count(), library.changes()), ([], 0, 6))
        library.write(1, 0)
        self.assertEqual(library.tables(1), [(0, 0, 7), (1, 0, 7)])

    def test_a_copy_changes_the_target_only(self):
        library = Library(Shape([2, 2]))
        library.create()
        library.write(1, 0)
        library.write(1, 2)
        library.create()
        library.write(2, 3)
        library.copy_page(1, 0, 2, 3)
        self.assertEqual(library.tables(1), [(0, 0, 2), (1, 0, 1), (1, 2, 2)])
        self.assertEqual(library.tables(2), [(0, 0, 5), (1, 2, 5)])
        library.copy_page(1, 0, 1, 2)
        self.assertEqual(library.tables(1), [(0, 0, 7), (1, 0, 1), (1, 2, 7)])

    def test_tables_of_equal_stamps_with_other_numbers_are_different(self):
        library = Library(Shape([2]))
        library.create()
        library.write(1, 0)
        library.create()
        library.copy_page(1, 0, 2, 0)
        self.assertEqual((library.leaves(1), library.leaves(2)), ([(0, 1)], [(0, 1)]))
        self.assertEqual((library.tables(1), library.tables(2)), ([(0, 0, 1)], [(0, 0, 2)]))
        self.assertEqual((library.table_count(), library.lenders(1, 0, 0), library.lenders(2, 1, 0)), (2, 1, 2))

    def test_a_lent_book_takes_over_all_numbers(self):
        for widths in WIDTHS:
            twins = new_twins(self, widths)
            rng = random.Random(24)
            twins.do("create")
            for _ in range(20):
                twins.do("write", 1, rng.randrange(twins.plain.page_count))
                page = rng.randrange(twins.plain.page_count)
                twins.do("drop_range", 1, page, page + rng.randint(0, 1))
            twins.do("drop_range", 1, 0, 1)
            lent = twins.do("lend", 1)
            self.assertEqual(twins.library.tables(lent), twins.library.tables(1))
            self.assertEqual(twins.library.table_count(), len(twins.library.tables(1)))
            twins.do("delete", 1)
            twins.do("tables", lent)
            twins.do("table_count")


class LendersTest(unittest.TestCase):
    def test_where_there_is_nothing(self):
        library = Library(Shape([2, 2]))
        library.create()
        self.assertEqual([library.lenders(1, level, 3) for level in range(3)], [0, 0, 0])
        library.write(1, 0)
        self.assertEqual([library.lenders(1, level, 3) for level in range(3)], [1, 0, 0])
        self.assertEqual([library.lenders(1, level, 1) for level in range(3)], [1, 1, 0])
        library.create()
        self.assertEqual([library.lenders(2, level, 0) for level in range(3)], [0, 0, 0])

    def test_books_that_share_what_lies_above(self):
        library = Library(Shape([2, 2, 2]))
        library.create()
        for page in (0, 7):
            library.write(1, page)
        for _ in range(3):
            library.lend(1)
        self.assertEqual([library.lenders(1, level, 0) for level in range(4)], [4, 1, 1, 1])
        library.write(2, 7)
        self.assertEqual([library.lenders(1, level, 0) for level in range(4)], [3, 2, 1, 1])
        self.assertEqual([library.lenders(2, level, 0) for level in range(4)], [1, 2, 1, 1])
        library.write(3, 1)
        self.assertEqual([library.lenders(1, level, 0) for level in range(4)], [2, 2, 1, 2])
        self.assertEqual([library.lenders(3, level, 0) for level in range(4)], [1, 1, 1, 2])
        self.assertEqual([library.lenders(4, level, 7) for level in range(4)], [2, 2, 1, 1])

    def test_a_stamp_at_several_pages(self):
        library = Library(Shape([2, 2]))
        library.create()
        library.write(1, 0)
        library.copy_page(1, 0, 1, 1)
        library.copy_page(1, 0, 1, 3)
        self.assertEqual([library.lenders(1, level, 0) for level in range(3)], [1, 1, 3])
        library.lend(1)
        self.assertEqual([library.lenders(2, level, 0) for level in range(3)], [2, 1, 3])
        library.write(2, 2)
        self.assertEqual([library.lenders(2, level, 0) for level in range(3)], [1, 2, 4])

    def test_one_holder_if_and_only_if_all_numbers_are_1(self):
        for number, widths in enumerate(WIDTHS):
            rng = random.Random(number)
            twins = new_twins(self, widths)
            seen = []
            for _ in range(60):
                twins.random_step(rng, most=4)
                for book, page in twins.slots():
                    stamp = twins.library.stamp_of(book, page)
                    lenders = [twins.library.lenders(book, level, page) for level in range(len(widths) + 1)]
                    if stamp:
                        alone = len(twins.library.holders(stamp)) == 1
                        self.assertEqual(alone, lenders == [1] * len(lenders))
                        seen.append(alone)
            self.assertEqual(set(seen), {True, False})


class RestoreTest(unittest.TestCase):
    def kept(self, library, book):
        return (library.tables(book), library.leaves(book))

    def test_whatever_became_of_the_book(self):
        for number, widths in enumerate(WIDTHS):
            rng = random.Random(number)
            twins = new_twins(self, widths)
            twins.do("create")
            twins.keep(1)
            for _ in range(40):
                twins.random_step(rng)
                if twins.plain.books:
                    twins.keep(rng.choice(sorted(twins.plain.books)))
            for _ in range(6):
                changes = twins.library.changes()
                book = twins.restore(rng.randrange(len(twins.kept)))
                self.assertEqual(twins.library.changes(), changes)
                twins.compare()
                twins.compare_slots(twins.slots())
                page = rng.randrange(twins.plain.page_count)
                twins.do("write", book, page)
                twins.do("drop_range", book, page // 2, page)
                twins.do("copy_page", book, page, 1 if 1 in twins.plain.books else book, 0)
                twins.compare()
                twins.compare_slots(twins.slots())

    def test_an_empty_book(self):
        library = Library(Shape([2, 2]))
        library.create()
        self.assertEqual(library.restore([], []), 2)
        self.assertEqual((self.kept(library, 2), library.changes(), library.table_count()), (([], []), 0, 0))
        self.assertEqual(library.write(2, 1), ("begin", 0, 1))

    def test_tables_and_stamps_are_shared_with_each_equal_book(self):
        library = Library(Shape([2, 2]))
        library.create()
        library.write(1, 0)
        library.write(1, 3)
        kept = self.kept(library, 1)
        self.assertEqual([library.restore(*kept), library.restore(*kept)], [2, 3])
        self.assertEqual((library.table_count(), library.holders(1)), (3, [(1, 0), (2, 0), (3, 0)]))
        self.assertEqual([library.lenders(1, level, 0) for level in range(3)], [3, 1, 1])
        self.assertEqual((library.changes(), library.stamps()), (2, [1, 2]))
        self.assertEqual(library.write(1, 0), ("copy", 1, 3))
        self.assertEqual([library.lenders(3, level, 0) for level in range(3)], [2, 1, 1])
        self.assertEqual([library.lenders(3, level, 3) for level in range(3)], [2, 2, 1])
        self.assertEqual(library.delete(2), [])
        self.assertEqual(library.write(3, 0), ("rename", 1, 4))

    def test_a_book_that_is_gone(self):
        library = Library(Shape([2, 2]))
        library.create()
        library.write(1, 0)
        library.write(1, 1)
        library.drop_range(1, 0, 1)
        kept = self.kept(library, 1)
        self.assertEqual(library.delete(1), [2])
        self.assertEqual((library.stamps(), library.table_count()), ([], 0))
        self.assertEqual(library.restore(*kept), 2)
        self.assertEqual(self.kept(library, 2), ([(0, 0, 3), (1, 0, 3)], [(1, 2)]))
        self.assertEqual((library.holders(2), library.table_count(), library.changes()), ([(2, 1)], 2, 3))
        self.assertEqual(library.drop_range(2, 0, 4), [2])
        self.assertEqual(self.kept(library, 2), ([], []))

    def test_the_lists_stay_apart(self):
        library = Library(Shape([2, 2]))
        library.create()
        library.write(1, 0)
        library.write(1, 3)
        tables, leaves = self.kept(library, 1)
        before = (list(tables), list(leaves))
        library.restore(tables, leaves)
        self.assertEqual((tables, leaves), before)
        library.write(2, 1)
        library.drop_range(2, 3, 4)
        self.assertEqual((tables, leaves), before)
        library.restore(tables, leaves)
        tables.clear()
        leaves[0] = (1, 9)
        self.assertEqual(self.kept(library, 3), before)


if __name__ == "__main__":
    unittest.main()
