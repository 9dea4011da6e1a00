"""Points 47 to 56 and 64: houses of many kinds beside a plain one, with random deeds and events in between."""

import random
import unittest

from tests.house_twins import Deeds, make_twins

SHAPES = (((2, 3), 3), ((4,), 1), ((2, 2, 2), 2), ((5,), 4), ((2, 2, 2, 2), 2), ((8, 2), 16))


class RandomDeedsTest(unittest.TestCase):
    def run_deeds(self, seed, limit, steps, *, blocks=60, crashes=0.0):
        rng = random.Random(seed)
        widths, page_size = SHAPES[seed % len(SHAPES)]
        twins = make_twins(self, rng, limit, widths=widths, page_size=page_size, blocks=blocks)
        deeds = Deeds(rng, twins.plain)
        counts = {}
        for number in range(steps):
            name, args, more = deeds.next()
            if rng.random() < crashes:
                stop = rng.choice((None, rng.randrange(40), rng.randrange(8)))
                name, args = "crash", ()
                more = {"stop": stop, "fates": [rng.randrange(3) for _ in range(rng.randrange(8))]}
            kind = (name, twins.do(name, *args, **more)[0])
            counts[kind] = counts.get(kind, 0) + 1
            twins.check_houses()
            if number % 4 == 0:
                twins.events(rng)
                twins.check_houses()
            if number % 7 == 0:
                twins.compare()
                twins.compare_pairs(rng, 4)
            if number % 31 == 0:
                twins.compare_bytes()
                twins.check_houses()
        twins.compare()
        twins.compare_bytes()
        return counts

    def test_little_room(self):
        for seed in range(6):
            self.run_deeds(seed, 4, 150)

    def test_some_room(self):
        for seed in range(6):
            self.run_deeds(100 + seed, 7, 150)

    def test_much_room(self):
        counts = {}
        for seed in range(8):
            for kind, count in self.run_deeds(200 + seed, 12, 220).items():
                counts[kind] = counts.get(kind, 0) + count
        # Each deed has been done, and most of them have been refused, too.
        done = {name for name, result in counts if result == "returned"}
        refused = {name for name, result in counts if result == "raised"}
        self.assertEqual(len(done), 25)
        self.assertEqual(done - refused, {"create_space", "checkpoint", "sync"})

    def test_crashes(self):
        for seed in range(8):
            self.run_deeds(300 + seed, 12, 160, crashes=0.06)

    def test_few_blocks(self):
        counts = {}
        for seed in range(9):
            for kind, count in self.run_deeds(400 + seed, 7, 120, blocks=5 + seed, crashes=0.05).items():
                counts[kind] = counts.get(kind, 0) + count
        for kind in (("crash", "raised"), ("sync", "raised"), ("crash", "returned"), ("sync", "returned")):
            self.assertGreater(counts.get(kind, 0), 2)


if __name__ == "__main__":
    unittest.main()
