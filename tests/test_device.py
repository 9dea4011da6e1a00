"""Point 41: the device, beside two plain lists."""

import random
import unittest

from lentpages.device import Device
from lentpages.errors import BadRange
from tests.plain import outcome

CONTENTS = (
    (), (1,), ("root", None), (None,), (-5, "a", None, ("b", (2, (), (None, ("c", 10 ** 30))))), ("x" * 50, (0,) * 40),
)


class PlainDevice:
    """A list of what is permanent, and a list of the pending writes."""

    def __init__(self, blocks):
        self.permanent = [None] * blocks
        self.writes = []

    def check(self, block):
        if block not in range(len(self.permanent)):
            raise BadRange(block, block + 1)

    def write(self, block, content):
        self.check(block)
        self.writes.append((block, content))

    def read(self, block):
        self.check(block)
        found = [self.permanent[block]] + [content for written, content in self.writes if written == block]
        return found[-1]

    def barrier(self):
        self.crash([1] * len(self.writes))

    def pending(self):
        return [block for block, _ in self.writes]

    def crash(self, fates):
        for (block, content), fate in zip(self.writes, list(fates) + [0] * len(self.writes)):
            if fate:
                self.permanent[block] = content if fate == 1 else None
        self.writes = []


def fingerprint(device, blocks):
    return [device.read(block) for block in range(blocks)] + [device.pending()]


class RandomDeedsTest(unittest.TestCase):
    def test_beside_a_plain_device(self):
        for blocks in (2, 3, 7, 600, 700):
            rng = random.Random(blocks)
            device = Device(blocks)
            plain = PlainDevice(blocks)
            for _ in range(150):
                name, *args = self.random_deed(rng, blocks)
                found = outcome(getattr(device, name), *args)
                self.assertEqual(found, outcome(getattr(plain, name), *args))
                block = rng.randrange(blocks)
                self.assertEqual(device.read(block), plain.read(block))
                self.assertEqual(device.pending(), plain.pending())
            self.assertEqual(fingerprint(device, blocks), fingerprint(plain, blocks))

    def random_deed(self, rng, blocks):
        name = rng.choice(["write"] * 8 + ["read", "barrier", "crash"])
        block = rng.choice((0, 1, rng.randrange(blocks), rng.randrange(blocks), rng.randint(-2, blocks + 2)))
        if name == "write":
            return (name, block, rng.choice(CONTENTS))
        if name == "crash":
            return (name, [rng.randrange(3) for _ in range(rng.randrange(12))])
        return (name, block) if name == "read" else (name,)


class DeviceTest(unittest.TestCase):
    def test_blocks_are_empty_at_first(self):
        self.assertEqual(fingerprint(Device(3), 3), [None, None, None, []])

    def test_pending_writes_are_read(self):
        device = Device(3)
        for block, content in ((2, (1,)), (0, (2,)), (2, (3,))):
            device.write(block, content)
        self.assertEqual(fingerprint(device, 3), [(2,), None, (3,), [2, 0, 2]])
        device.barrier()
        self.assertEqual(fingerprint(device, 3), [(2,), None, (3,), []])
        device.crash([])
        self.assertEqual(fingerprint(device, 3), [(2,), None, (3,), []])

    def test_each_fate(self):
        for fate, wanted in ((0, (1,)), (1, (2,)), (2, None)):
            device = Device(2)
            device.write(1, (1,))
            device.barrier()
            device.write(1, (2,))
            device.crash([fate])
            self.assertEqual(fingerprint(device, 2), [None, wanted, []])

    def test_a_block_twice_meets_two_fates(self):
        for fates, wanted in (((1, 0), (1,)), ((0, 1), (2,)), ((1, 2), None), ((2, 1), (2,)), ((0, 0), None)):
            device = Device(2)
            device.write(0, (1,))
            device.write(0, (2,))
            device.crash(list(fates))
            self.assertEqual(device.read(0), wanted)

    def test_too_few_and_too_many_fates(self):
        device = Device(4)
        for block in range(4):
            device.write(block, (block,))
        fates = [1, 1]
        device.crash(fates)
        self.assertEqual(fates, [1, 1])
        self.assertEqual(fingerprint(device, 4), [(0,), (1,), None, None, []])
        device.write(3, (9,))
        device.crash([1, 2, 2, 2])
        self.assertEqual(fingerprint(device, 4), [(0,), (1,), None, (9,), []])
        # The further fates are not kept for later writes.
        device.write(0, (8,))
        device.crash([])
        self.assertEqual(device.read(0), (0,))

    def test_a_second_crash_finds_nothing_pending(self):
        device = Device(2)
        device.write(0, (1,))
        device.crash([0])
        device.crash([1])
        self.assertIsNone(device.read(0))

    def test_no_such_block(self):
        device = Device(2)
        device.write(1, (7,))
        before = fingerprint(device, 2)
        for block in (-2, -1, 2, 3, 600):
            wanted = ("raised", BadRange, {"start": block, "end": block + 1})
            self.assertEqual(outcome(device.read, block), wanted)
            self.assertEqual(outcome(device.write, block, (1,)), wanted)
            self.assertEqual(fingerprint(device, 2), before)

    def test_what_is_returned_is_new(self):
        device = Device(2)
        device.write(1, (1,))
        device.pending().append(0)
        self.assertEqual(device.pending(), [1])


if __name__ == "__main__":
    unittest.main()
