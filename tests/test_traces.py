"""Points 29 and 30: page traces, working sets and phases."""

import random
import unittest
from itertools import combinations

from lentpages.traces import page_ins, phases, working_set
from tests.plain_frames import KINDS, PlainChooser

NAMES = (0, 1, -1, -2, 7, 10 ** 20, -10 ** 20, 255, 3, 4, 5, 6, 8, 9, 12)


def random_trace(rng, length):
    """A trace over few or many pages; half of the traces stay near a page for a while."""
    names = rng.sample(NAMES, rng.randint(1, len(NAMES)))
    if rng.random() < 0.5:
        return [rng.choice(names) for _ in range(length)]
    trace = []
    while len(trace) < length:
        near = rng.sample(names, min(len(names), rng.randint(1, 4)))
        trace.extend([rng.choice(near) for _ in range(rng.randint(1, 20))])
    return trace[:length]


def plain_page_ins(trace, frames, kind):
    """Keeps a dict from frames to pages and asks a plain chooser."""
    chooser = PlainChooser(kind, frames)
    pages = {}
    positions = []
    for at, page in enumerate(trace):
        found = [frame for frame in pages if pages[frame] == page]
        if found:
            chooser.touched(found[0])
            continue
        positions.append(at)
        empty = [frame for frame in range(frames) if frame not in pages]
        frame = empty[0] if empty else chooser.choose(list(range(frames)))
        if not empty:
            chooser.emptied(frame)
            del pages[frame]
        pages[frame] = page
        chooser.filled(frame)
    return positions


def fewest_stretches(trace, frames):
    """The least number of stretches, found by trying all partings."""
    for size in range(1, len(trace) + 1):
        for starts in combinations(range(1, len(trace)), size - 1):
            ends = list(starts) + [len(trace)]
            if all([len(set(trace[a:b])) <= frames for a, b in zip([0] + list(starts), ends)]):
                return size
    return 0


class PageInsTest(unittest.TestCase):
    def test_random_traces(self):
        for kind in KINDS:
            rng = random.Random(29)
            for frames in (1, 2, 3, 4, 5, 8, 12, 15):
                for length in (0, 1, 2, 10, 60, 200, 220):
                    trace = random_trace(rng, length)
                    before = list(trace)
                    with self.subTest(kind=kind, frames=frames, trace=trace):
                        self.assertEqual(page_ins(trace, frames, kind), plain_page_ins(before, frames, kind))
                        self.assertEqual(trace, before)

    def test_known_traces(self):
        trace = [1, 2, 3, 4, 1, 2, 5, 1, 2, 3, 4, 5]
        self.assertEqual([len(page_ins(trace, frames, "fifo")) for frames in (3, 4)], [9, 10])
        self.assertEqual(page_ins(trace, 3, "lru"), [0, 1, 2, 3, 4, 5, 6, 9, 10, 11])
        self.assertEqual(page_ins([1, 2, 3, 1, 2], 2, "newest"), [0, 1, 2, 4])
        self.assertEqual(page_ins([1, 2, 1, 3, 1, 2, 3], 2, "clock"), [0, 1, 3, 4, 5, 6])

    def test_an_empty_trace_and_one_page(self):
        for kind in KINDS:
            self.assertEqual(page_ins([], 3, kind), [])
            for frames in (1, 2, 70):
                self.assertEqual(page_ins([0, 0, 0], frames, kind), [0])

    def test_enough_frames_bring_each_page_in_once(self):
        for kind in KINDS:
            self.assertEqual(page_ins([-1, 0, 10 ** 9, 0, -1, -2, 0, -2], 4, kind), [0, 1, 2, 5])

    def test_one_frame_brings_in_each_other_page(self):
        for kind in KINDS:
            self.assertEqual(page_ins([5, 5, 0, 5, 0, 0, -5], 1, kind), [0, 2, 3, 4, 6])

    def test_stretches_with_few_pages(self):
        rng = random.Random(30)
        for kind in ("lru", "fifo", "clock"):
            for frames in (1, 2, 3, 5):
                trace = random_trace(rng, 70)
                positions = page_ins(trace, frames, kind)
                for start in range(len(trace)):
                    for end in range(start, len(trace) + 1):
                        if len(set(trace[start:end])) <= frames:
                            self.assertLessEqual(len([at for at in positions if start <= at < end]), frames)

    def test_lists_are_new(self):
        trace = [1, 2, 1]
        result = page_ins(trace, 1, "lru")
        trace.clear()
        self.assertEqual(result, [0, 1, 2])
        result.clear()
        self.assertEqual(page_ins([1, 2, 1], 1, "lru"), [0, 1, 2])


class WorkingSetTest(unittest.TestCase):
    def test_random_traces(self):
        rng = random.Random(31)
        for length in (0, 1, 2, 9, 50, 200):
            for window in (1, 2, 3, 7, 49, 50, 51, 199, 200, 201, 1000):
                trace = random_trace(rng, length)
                before = list(trace)
                wanted = []
                for at in range(length):
                    wanted.append(len({trace[i] for i in range(max(0, at - window + 1), at + 1)}))
                self.assertEqual(working_set(trace, window), wanted)
                self.assertEqual(trace, before)

    def test_windows(self):
        trace = [4, 4, -1, 4, 0, 0, 0]
        self.assertEqual(working_set(trace, 1), [1] * 7)
        self.assertEqual(working_set(trace, 2), [1, 1, 2, 2, 2, 1, 1])
        self.assertEqual(working_set(trace, 3), [1, 1, 2, 2, 3, 2, 1])
        self.assertEqual(working_set(trace, 7), [1, 1, 2, 2, 3, 3, 3])
        self.assertEqual(working_set(trace, 6), [1, 1, 2, 2, 3, 3, 3])
        self.assertEqual(working_set([], 1), [])


class PhasesTest(unittest.TestCase):
    def test_the_definition(self):
        rng = random.Random(32)
        for frames in (1, 2, 3, 4, 12, 15):
            for length in (0, 1, 2, 20, 200):
                trace = random_trace(rng, length)
                before = list(trace)
                starts = phases(trace, frames)
                self.assertEqual(trace, before)
                self.assertEqual(starts[:1], [0] if trace else [])
                for start, end in zip(starts, starts[1:] + [None]):
                    self.assertLessEqual(len(set(trace[start:end])), frames)
                    self.assertTrue(end is None or len(set(trace[start:end + 1])) == frames + 1)

    def test_no_parting_has_fewer_stretches(self):
        rng = random.Random(33)
        for _ in range(80):
            trace = [rng.randint(-2, 2) for _ in range(rng.randint(0, 9))]
            for frames in (1, 2, 3):
                self.assertEqual(len(phases(trace, frames)), fewest_stretches(trace, frames))

    def test_small_traces(self):
        self.assertEqual(phases([], 2), [])
        self.assertEqual(phases([0], 1), [0])
        self.assertEqual(phases([0, 0, -1, 0, 0], 1), [0, 2, 3])
        self.assertEqual(phases([1, 2, 1, 3, 1, 2], 2), [0, 3, 5])
        self.assertEqual(phases([1, 2, 1, 3, 1, 2], 3), [0])

    def test_lists_are_new(self):
        for function, argument in ((phases, 1), (working_set, 2)):
            trace = [1, 2, 2]
            wanted = list(function(trace, argument))
            result = function(trace, argument)
            trace.clear()
            self.assertEqual(result, wanted)
            result.clear()
            self.assertEqual(function([1, 2, 2], argument), wanted)


if __name__ == "__main__":
    unittest.main()
