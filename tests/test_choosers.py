"""Point 28: choosers."""

import random
import unittest

from lentpages.choosers import Chooser
from tests.plain_frames import KINDS, PlainChooser


def told(kind, frames, calls):
    """A chooser that was told these calls, pairs of a name and a frame."""
    chooser = Chooser(kind, frames)
    for name, frame in calls:
        getattr(chooser, name)(frame)
    return chooser


def fills(*frames):
    return [("filled", frame) for frame in frames]


class PlainChooserTest(unittest.TestCase):
    def test_random_calls(self):
        for kind in KINDS:
            for frames in (1, 2, 3, 4, 7, 16, 63, 64, 70):
                self.check(random.Random(frames), kind, frames)

    def check(self, rng, kind, frames):
        chooser = Chooser(kind, frames)
        plain = PlainChooser(kind, frames)
        filled = []
        for _ in range(250):
            name = rng.choice(("filled", "filled", "touched", "touched", "emptied", "choose", "choose"))
            if name == "choose" and filled:
                allowed = rng.sample(filled, rng.choice((1, len(filled), rng.randint(1, len(filled)))))
                before = list(allowed)
                with self.subTest(kind=kind, frames=frames, allowed=before):
                    self.assertEqual(chooser.choose(allowed), plain.choose(before))
                    self.assertEqual(allowed, before)
            elif name == "filled" and len(filled) < frames:
                frame = rng.choice([frame for frame in range(frames) if frame not in filled])
                self.tell(chooser, plain, name, frame)
                filled.append(frame)
            elif name in ("touched", "emptied") and filled:
                frame = rng.choice(filled)
                self.tell(chooser, plain, name, frame)
                if name == "emptied":
                    filled.remove(frame)

    def tell(self, chooser, plain, name, frame):
        self.assertIsNone(getattr(chooser, name)(frame))
        getattr(plain, name)(frame)


class KindTest(unittest.TestCase):
    def test_lru(self):
        chooser = told("lru", 3, fills(2, 0, 1))
        self.assertEqual(chooser.choose([0, 1, 2]), 2)
        chooser.touched(2)
        self.assertEqual([chooser.choose([1, 2, 0]), chooser.choose([2, 1]), chooser.choose([2])], [0, 1, 2])
        chooser.emptied(0)
        chooser.filled(0)
        self.assertEqual(chooser.choose([0, 1, 2]), 1)

    def test_fifo(self):
        chooser = told("fifo", 3, fills(2, 0, 1) + [("touched", 2), ("touched", 0)])
        self.assertEqual([chooser.choose([0, 1, 2]), chooser.choose([1, 0])], [2, 0])
        chooser.emptied(2)
        chooser.filled(2)
        self.assertEqual(chooser.choose([2, 1, 0]), 0)

    def test_newest(self):
        chooser = told("newest", 3, fills(2, 0, 1) + [("touched", 2), ("touched", 0)])
        self.assertEqual([chooser.choose([0, 1, 2]), chooser.choose([2, 0])], [1, 0])
        chooser.emptied(2)
        chooser.filled(2)
        self.assertEqual(chooser.choose([0, 1, 2]), 2)

    def test_clock(self):
        chooser = told("clock", 3, fills(0, 1, 2))
        # The hand takes all bits away, then chooses frame 0 and points at frame 1.
        self.assertEqual(chooser.choose([0, 1, 2]), 0)
        self.assertEqual([chooser.choose([0, 1, 2]) for _ in range(4)], [1, 2, 0, 1])
        chooser.touched(2)
        self.assertEqual(chooser.choose([0, 1, 2]), 0)
        # The bit of frame 2 is gone, and the hand points at frame 1.
        self.assertEqual([chooser.choose([2, 0]), chooser.choose([2])], [2, 2])

    def test_clock_leaves_the_bits_of_frames_that_are_not_allowed(self):
        chooser = told("clock", 3, fills(0, 1, 2))
        self.assertEqual(chooser.choose([1]), 1)
        # Frames 0 and 2 still have their bits, so the hand goes past them.
        self.assertEqual([chooser.choose([0, 1, 2]), chooser.choose([0, 1, 2])], [1, 2])

    def test_clock_bits_of_emptied_frames(self):
        chooser = told("clock", 2, fills(0, 1) + [("emptied", 0), ("filled", 0)])
        self.assertEqual(chooser.choose([0]), 0)
        self.assertEqual(chooser.choose([0, 1]), 0)

    def test_the_hand_starts_at_frame_0(self):
        chooser = told("clock", 4, fills(1, 3))
        self.assertEqual([chooser.choose([3, 1]), chooser.choose([3, 1]), chooser.choose([3, 1])], [1, 3, 1])


class EdgeTest(unittest.TestCase):
    def test_asked_again(self):
        for kind, wanted in (("lru", [1, 1, 1]), ("fifo", [0, 0, 0]), ("newest", [2, 2, 2]), ("clock", [0, 1, 2])):
            chooser = told(kind, 3, fills(0, 1, 2) + [("touched", 0)])
            self.assertEqual([chooser.choose([2, 1, 0]) for _ in range(3)], wanted)

    def test_choosing_does_not_empty_a_frame(self):
        for kind in KINDS:
            chooser = told(kind, 2, fills(0, 1))
            frame = chooser.choose([0, 1])
            self.assertEqual(chooser.choose([frame]), frame)
            chooser.touched(frame)
            self.assertEqual(chooser.choose([frame]), frame)

    def test_one_frame(self):
        for kind in KINDS:
            chooser = told(kind, 1, fills(0))
            self.assertEqual([chooser.choose([0]), chooser.choose([0])], [0, 0])
            chooser.emptied(0)
            chooser.filled(0)
            self.assertEqual(chooser.choose([0]), 0)

    def test_two_choosers_know_nothing_of_each_other(self):
        for kind in KINDS:
            first = told(kind, 3, fills(0, 1, 2))
            second = told(kind, 3, fills(2, 1, 0))
            wanted = [PlainChooser(kind, 3), PlainChooser(kind, 3)]
            for plain, frames in zip(wanted, ((0, 1, 2), (2, 1, 0))):
                for frame in frames:
                    plain.filled(frame)
            for _ in range(3):
                self.assertEqual(first.choose([0, 1, 2]), wanted[0].choose([0, 1, 2]))
            self.assertEqual(second.choose([0, 1, 2]), wanted[1].choose([0, 1, 2]))


if __name__ == "__main__":
    unittest.main()
