"""Points 42 to 46: the journal, beside a plain one."""

import random
import unittest
from copy import deepcopy

from lentpages.device import Device
from lentpages.errors import NoBlocks, NoStamp
from lentpages.journal import Journal
from lentpages.shapes import Shape
from tests.plain import outcome
from tests.plain_journal import Author, LoggingDevice, PlainJournal, parts, plain_state, state_of

WIDTHS = ([2], [3, 2], [2, 2, 2], [2, 2, 2, 2], [8, 8])
# The lists of a book whose pages 0 and 3 of four were written by the changes 1 and 2, and with page 3 written again.
FIRST = ("f", 4, [(0, 0, 2), (1, 0, 1), (1, 2, 2)], [(0, 1), (3, 2)])
SECOND = ("f", 4, [(0, 0, 3), (1, 0, 1), (1, 2, 3)], [(0, 1), (3, 3)])
SHAPE = Shape([2, 2])


class NewJournalTest(unittest.TestCase):
    def test_on_a_new_device(self):
        device = LoggingDevice(2)
        journal = Journal(device, SHAPE)
        self.assertEqual(state_of(journal), (0, [], {}, 0))
        self.assertEqual((journal.stamps(), device.operations, device.pending()), ([], [None, 0, None], []))
        self.assertIsNone(device.read(1))

    def test_a_second_journal_writes_nothing(self):
        device = LoggingDevice(30)
        Journal(device, SHAPE).commit([FIRST], {1: [7], 2: [8]})
        device.operations.clear()
        journal = Journal(device, SHAPE)
        self.assertEqual((journal.state_number(), journal.files(), device.operations), (1, [FIRST], [None]))

    def test_it_calls_barrier_first(self):
        device = Device(30)
        journal = Journal(device, SHAPE)
        new_blocks = journal.commit([FIRST], {1: [7], 2: [8]}, stop=8)
        self.assertEqual((new_blocks, device.pending()), (6, [1]))
        self.assertEqual(Journal(device, SHAPE).state_number(), 1)
        self.assertEqual(device.pending(), [])

    def test_a_lost_first_root_is_written_again(self):
        device = Device(30)
        Journal(device, SHAPE)
        device.write(0, (1,))
        device.crash([2])
        self.assertEqual(state_of(Journal(device, SHAPE)), (0, [], {}, 0))
        self.assertIsNotNone(device.read(0))


class RandomCommitsTest(unittest.TestCase):
    def test_commits_beside_a_plain_journal(self):
        for number, widths in enumerate(WIDTHS):
            rng = random.Random(number)
            author = Author(rng, widths)
            device = Device(rng.choice((60, 200, 600)))
            journal = Journal(device, author.shape)
            plain = PlainJournal(device.block_count())
            for _ in range(25):
                author.change()
                files, contents = author.files(), deepcopy(author.contents)
                before = deepcopy((files, contents))
                found = outcome(journal.commit, files, contents)
                self.assertEqual(found, outcome(plain.commit, files, contents))
                self.assertEqual((files, contents), before)
                self.assertEqual(state_of(journal), plain_state(plain))
                if rng.random() < 0.3:
                    journal = Journal(device, author.shape)
                    self.assertEqual(state_of(journal), plain_state(plain))

    def test_stops_and_crashes(self):
        kept = {True: 0, False: 0}
        for number, widths in enumerate(WIDTHS):
            rng = random.Random(50 + number)
            author = Author(rng, widths)
            device = Device(200)
            journal = Journal(device, author.shape)
            plain = PlainJournal(200)
            for _ in range(25):
                author.change()
                files = author.files()
                new_blocks = plain.new_blocks(files)
                stop = rng.choice((rng.randint(0, new_blocks + 5), new_blocks + 2, new_blocks + 3))
                fates = [rng.randrange(3) for _ in range(rng.randrange(new_blocks + 3))]
                before = state_of(journal)
                self.assertEqual(journal.commit(files, author.contents, stop=stop), new_blocks)
                self.assertEqual(state_of(journal), before)
                device.crash(fates)
                kept[plain.crash(files, author.contents, stop, fates)] += 1
                journal = Journal(device, author.shape)
                self.assertEqual(state_of(journal), plain_state(plain))
        self.assertGreater(min(kept.values()), 20)

    def test_each_stop_with_each_fate(self):
        for stop in range(13):
            for fates in ([], [0] * 9, [1] * 9, [2] * 9, [1, 0, 2] * 3, [2, 1], [0, 1, 1], [1]):
                device = Device(100)
                journal = Journal(device, SHAPE)
                journal.commit([FIRST], {1: [7], 2: [8]})
                plain = PlainJournal(100)
                plain.commit([FIRST], {1: [7], 2: [8]})
                self.assertEqual(journal.commit([SECOND], {3: [9]}, stop=stop), 4)
                device.crash(fates)
                done = plain.crash([SECOND], {3: [9]}, stop, fates)
                self.assertEqual(done, stop >= 7 or (stop == 6 and fates[:1] == [1]))
                journal = Journal(device, SHAPE)
                self.assertEqual(state_of(journal), plain_state(plain))
                # Whatever is left over on the device, the next state can be written.
                journal.commit([FIRST, ("g",) + SECOND[1:]], {2: [5], 3: [6]})
                self.assertEqual(Journal(device, SHAPE).files(), [FIRST, ("g",) + SECOND[1:]])


class OperationsTest(unittest.TestCase):
    def test_the_operations_and_their_order(self):
        device = LoggingDevice(100)
        journal = Journal(device, SHAPE)
        rows = (([FIRST], 1, 6), ([SECOND], 0, 4), ([SECOND], 1, 1), ([], 0, 1), ([FIRST], 1, 6))
        for files, root, new_blocks in rows:
            device.operations.clear()
            self.assertEqual(journal.commit(files, {1: [1], 2: [2], 3: [3]}), new_blocks)
            self.assertEqual(device.operations[new_blocks:], [None, root, None])
            written = device.operations[:new_blocks]
            self.assertEqual(len(set(written)), new_blocks)
            self.assertFalse({None, 0, 1} & set(written))

    def test_stop_does_only_the_first_operations(self):
        whole = LoggingDevice(100)
        journal = Journal(whole, SHAPE)
        whole.operations.clear()
        journal.commit([FIRST], {1: [1], 2: [2]})
        self.assertEqual(len(whole.operations), 9)
        for stop in range(12):
            device = LoggingDevice(100)
            journal = Journal(device, SHAPE)
            device.operations.clear()
            self.assertEqual(journal.commit([FIRST], {1: [1], 2: [2]}, stop=stop), 6)
            self.assertEqual(device.operations, whole.operations[:stop])
            self.assertEqual(state_of(journal), (0, [], {}, 0))

    def test_no_block_of_the_current_state_is_written(self):
        rng = random.Random(8)
        author = Author(rng, [3, 3])
        device = LoggingDevice(200)
        journal = Journal(device, author.shape)
        for _ in range(30):
            author.change()
            before = state_of(journal)
            new_blocks = journal.commit(author.files(), author.contents, stop=100)
            # All blocks that were written lose their contents, the root included.
            for block in device.operations[-3 - new_blocks:-3] + [device.operations[-2]]:
                device.write(block, (0,))
            device.crash([2] * 300)
            journal = Journal(device, author.shape)
            self.assertEqual(state_of(journal), before)
            journal.commit(author.files(), author.contents)


class NoBlocksTest(unittest.TestCase):
    def test_exactly_where_the_blocks_do_not_suffice(self):
        contents = {1: [1], 2: [2], 3: [3]}
        for blocks in range(8, 18):
            for stop in (None, 0, 3, 50):
                device = LoggingDevice(blocks)
                journal = Journal(device, SHAPE)
                journal.commit([FIRST], contents)
                before, operations = state_of(journal), list(device.operations)
                found = outcome(journal.commit, [SECOND], contents, stop=stop)
                if blocks < 12:
                    self.assertEqual(found, ("raised", NoBlocks, {"needed": 12, "limit": blocks}))
                    self.assertEqual((state_of(journal), device.operations), (before, operations))
                    self.assertEqual(state_of(Journal(device, SHAPE)), before)
                else:
                    self.assertEqual(found, ("returned", 4))

    def test_the_list_of_files_counts(self):
        journal = Journal(Device(2), SHAPE)
        wanted = ("raised", NoBlocks, {"needed": 3, "limit": 2})
        self.assertEqual(outcome(journal.commit, [], {}), wanted)
        self.assertEqual(outcome(journal.commit, [], {}, stop=0), wanted)
        journal = Journal(Device(3), SHAPE)
        self.assertEqual(journal.commit([], {}), 1)
        self.assertEqual(outcome(journal.commit, [], {}), ("raised", NoBlocks, {"needed": 4, "limit": 3}))
        self.assertEqual(journal.state_number(), 1)

    def test_old_blocks_are_used_again(self):
        # The current state, the next one and the root blocks fill the device at each commit.
        journal = Journal(Device(2 + 6 + 4), SHAPE)
        contents = {1: [1], 2: [2], 3: [3]}
        for number in range(1, 20):
            journal.commit([(FIRST, SECOND)[number % 2]], contents)
            self.assertEqual(journal.files(), [(FIRST, SECOND)[number % 2]])

    def test_random_sizes(self):
        failed = 0
        for seed in range(40):
            rng = random.Random(seed)
            author = Author(rng, [2, 3])
            device = Device(rng.randint(2, 40))
            journal = Journal(device, author.shape)
            plain = PlainJournal(device.block_count())
            for _ in range(6):
                author.change()
                stop = rng.choice((None, None, rng.randrange(9)))
                found = outcome(journal.commit, author.files(), author.contents, stop=stop)
                self.assertEqual(found, outcome(plain.commit, author.files(), author.contents, stop=stop))
                self.assertEqual(state_of(journal), plain_state(plain))
                failed += found[0] == "raised"
        self.assertGreater(failed, 20)


class StateTest(unittest.TestCase):
    def committed(self, files, contents):
        journal = Journal(Device(100), SHAPE)
        journal.commit(files, contents)
        return journal

    def test_files_are_sorted_and_new(self):
        rows = [("zz", 1, [], []), FIRST, ("a", 0, [], [])]
        journal = self.committed(rows, {1: [7], 2: [8]})
        self.assertEqual(journal.files(), [("a", 0, [], []), FIRST, ("zz", 1, [], [])])
        journal.files()[1][2].clear()
        journal.files()[1][3].append((1, 1))
        journal.files().clear()
        journal.stamps().clear()
        journal.content(1).append(1)
        self.assertEqual(journal.files()[1], FIRST)
        self.assertEqual((journal.stamps(), journal.content(1)), ([1, 2], [7]))

    def test_what_is_passed_is_copied(self):
        tables, leaves, data = list(FIRST[2]), list(FIRST[3]), [7, 7]
        rows, contents = [("f", 4, tables, leaves)], {1: data, 2: [8, 8]}
        journal = self.committed(rows, contents)
        tables.clear()
        leaves.clear()
        rows.clear()
        data[0] = 99
        contents.clear()
        self.assertEqual((journal.files(), journal.content(1), journal.content(2)), ([FIRST], [7, 7], [8, 8]))

    def test_a_current_stamp_keeps_its_content(self):
        journal = self.committed([FIRST], {1: [7], 2: [8]})
        journal.commit([SECOND], {1: [70], 3: [9], 4: [10]})
        self.assertEqual((journal.stamps(), journal.content(1), journal.content(3)), ([1, 3], [7], [9]))
        # A stamp that was gone in between has no content to keep.
        journal.commit([FIRST], {2: [80]})
        self.assertEqual((journal.content(1), journal.content(2)), ([7], [80]))

    def test_no_stamp(self):
        journal = self.committed([FIRST], {1: [7], 2: [8], 3: [9]})
        journal.commit([SECOND], {3: [9]})
        for stamp in (0, 2, 4):
            self.assertEqual(outcome(journal.content, stamp), ("raised", NoStamp, {"stamp": stamp}))
        self.assertEqual(outcome(Journal(Device(2), SHAPE).content, 1), ("raised", NoStamp, {"stamp": 1}))

    def test_shared_tables_and_stamps_take_one_block(self):
        copied = ("g",) + FIRST[1:]
        journal = self.committed([FIRST, copied], {1: [7], 2: [8]})
        self.assertEqual(journal.block_count(), len(parts([FIRST])) + 1)
        self.assertEqual(journal.commit([FIRST, copied, ("h",) + SECOND[1:]], {3: [9]}), 4)
        self.assertEqual(journal.block_count(), 5 + 3 + 1)

    def test_an_old_object_keeps_its_state(self):
        device = Device(100)
        old = Journal(device, SHAPE)
        old.commit([FIRST], {1: [7], 2: [8]})
        new = Journal(device, SHAPE)
        for number in range(6):
            new.commit([(FIRST, SECOND)[number % 2]], {2: [8], 3: [9]})
        self.assertEqual((old.state_number(), old.files(), old.content(2)), (1, [FIRST], [8]))

    def test_a_later_library_with_the_same_stamps(self):
        # The stamps are those of the state before, so their contents are, too; the pages are not.
        journal = self.committed([FIRST], {1: [7], 2: [8]})
        other = ("f", 4, [(0, 0, 2), (1, 0, 2)], [(0, 2), (1, 1)])
        self.assertEqual(journal.commit([other], {1: [0], 2: [0]}), 2)
        self.assertEqual((journal.files(), journal.content(1), journal.content(2)), ([other], [7], [8]))


if __name__ == "__main__":
    unittest.main()
