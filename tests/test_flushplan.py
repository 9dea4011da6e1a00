"""Point 18: flush plans."""

import random
import unittest
from copy import deepcopy
from itertools import combinations, product

from lentpages.droprules import play_trace
from lentpages.flushplan import flush_plan

# Two keys and two values are enough for each way in which an entry becomes stale.
EVENTS = [("touch", 1), ("touch", 2)] + [("set", key, value) for key in (1, 2) for value in (None, 5, 6)]
KEYS = (1, "1", (1,), ("1",), 0, "", -1, -2, (1, "a"), 10 ** 20)
VALUES = (None, 0, 1, "", "x", (), (0, "a"))


def stale_touches(trace, capacity, moments):
    """Plays the trace with a list of entries and a plain table, and empties the list just before the moments.

    Returns the positions of the touches that do not see the actual value.
    """
    table = {}
    entries = []
    stale = []
    for at, (name, key, *rest) in enumerate(trace):
        if at in moments:
            entries = []
        if name == "set":
            table[key] = rest[0]
            continue
        found = [entry for entry in entries if entry[0] == key]
        entries = [entry for entry in entries if entry[0] != key]
        actual = table.get(key)
        if not found and actual is not None:
            found = [(key, actual)]
        if found and found[0][1] != actual:
            stale.append(at)
        entries = (entries + found)[-capacity:] if capacity else []
    return stale


def plain_plan(trace, capacity):
    """The positions by their definition: the first stale touch is mended, then the trace is played again."""
    positions = []
    stale = stale_touches(trace, capacity, positions)
    while stale:
        positions.append(stale[0])
        stale = stale_touches(trace, capacity, positions)
    pairs = []
    for at in positions:
        earlier = [i for i in range(at) if trace[i][:2] == ("touch", trace[at][1])]
        pairs.append((earlier[-1], at))
    return (positions, pairs)


def values_at(trace, position):
    """The plain table just before the event at the position."""
    table = {}
    for event in trace[:position]:
        if event[0] == "set":
            table[event[1]] = event[2]
    return table


def random_trace(rng, length, keys):
    """A trace without flush events."""
    events = []
    for _ in range(length):
        key = rng.choice(keys)
        events.append(rng.choice((("touch", key), ("touch", key), ("set", key, rng.choice(VALUES)))))
    return events


def fewest_moments(trace, capacity):
    """The least number of moments that let every touch see the actual value, found by a search."""
    for size in range(len(trace) + 1):
        for moments in combinations(range(len(trace)), size):
            if not stale_touches(trace, capacity, moments):
                return size
    return None


class PlanTest(unittest.TestCase):
    def check(self, trace, capacity):
        """Checks all that point 18 says of the plan, but for its being the shortest."""
        with self.subTest(trace=trace, capacity=capacity):
            before = deepcopy(trace)
            positions, pairs = flush_plan(trace, capacity)
            self.assertEqual(trace, before)
            self.assertEqual((positions, pairs), plain_plan(trace, capacity))
            self.assertEqual(positions, sorted(set(positions)))
            self.assertEqual(stale_touches(trace, capacity, positions), [])
            last = 0
            for (i, j), at in zip(pairs, positions):
                self.assertEqual(j, at)
                self.assertGreaterEqual(i, last)
                key = trace[j][1]
                self.assertNotEqual(values_at(trace, i).get(key), values_at(trace, j).get(key))
                last = j
        return positions

    def test_random_traces(self):
        rng = random.Random(18)
        for capacity in (0, 1, 2, 3, 5, 64, 70):
            for length in (0, 1, 2, 10, 40, 200, 220):
                for many in (1, 2, 4, len(KEYS)):
                    self.check(random_trace(rng, length, rng.sample(KEYS, many)), capacity)

    def test_all_short_traces(self):
        for capacity in (0, 1, 2):
            for trace in product(EVENTS, repeat=4):
                self.check(list(trace), capacity)

    def test_no_shorter_list_of_moments(self):
        rng = random.Random(19)
        for capacity in (0, 1, 2, 3):
            for _ in range(60):
                trace = random_trace(rng, rng.randint(4, 11), [1, "1"])
                self.assertEqual(len(flush_plan(trace, capacity)[0]), fewest_moments(trace, capacity))

    def test_the_cache_is_emptied_by_play_trace_in_the_same_way(self):
        rng = random.Random(20)
        for capacity in (1, 2, 4):
            trace = random_trace(rng, 80, KEYS[:4])
            positions, _ = flush_plan(trace, capacity)
            self.assertNotEqual(positions, [])
            flushed = []
            for at, event in enumerate(trace):
                flushed.extend([("flush",)] * (at in positions) + [event])
            self.assertTrue(all([seen == actual for seen, actual in play_trace(flushed, capacity, [])]))


class EdgeTest(unittest.TestCase):
    def test_the_example_of_the_document(self):
        trace = [("set", "a", 1), ("touch", "a"), ("set", "a", 2), ("touch", "a")]
        self.assertEqual(flush_plan(trace, 1), ([3], [(1, 3)]))
        self.assertEqual(flush_plan(trace, 0), ([], []))

    def test_an_empty_trace(self):
        self.assertEqual(flush_plan([], 3), ([], []))

    def test_all_entries_are_removed(self):
        trace = [("set", 1, 5), ("set", 2, 5), ("touch", 1), ("touch", 2), ("set", 1, 6), ("set", 2, 6)]
        trace.extend([("touch", 1), ("touch", 2)])
        self.assertEqual(flush_plan(trace, 2), ([6], [(2, 6)]))
        # The entry of key 1 left when key 2 came.
        self.assertEqual(flush_plan(trace, 1), ([], []))

    def test_a_removed_key_is_stale_and_an_absent_one_is_not(self):
        trace = [("touch", 1), ("set", 1, 0), ("touch", 1), ("set", 1, None), ("touch", 1), ("touch", 1)]
        self.assertEqual(flush_plan(trace, 1), ([4], [(2, 4)]))

    def test_a_value_that_comes_back_is_not_stale(self):
        trace = [("set", 1, 5), ("touch", 1), ("set", 1, 6), ("set", 1, 5), ("touch", 1)]
        self.assertEqual(flush_plan(trace, 4), ([], []))

    def test_the_last_touch_counts_not_the_one_that_filled(self):
        trace = [("set", 1, 5), ("touch", 1), ("touch", 1), ("set", 1, 6), ("touch", 1), ("set", 1, 7), ("touch", 1)]
        self.assertEqual(flush_plan(trace, 1), ([4, 6], [(2, 4), (4, 6)]))

    def test_a_touch_keeps_its_entry_in_the_cache(self):
        trace = [("set", key, 5) for key in (1, 2, 3)]
        trace.extend([("touch", 1), ("touch", 2), ("touch", 1), ("touch", 3), ("set", 1, 6), ("touch", 1)])
        self.assertEqual(flush_plan(trace, 2), ([8], [(5, 8)]))

    def test_like_looking_keys_are_different(self):
        keys = (1, "1", (1,))
        trace = [("set", key, 5) for key in keys] + [("touch", key) for key in keys]
        trace.extend([("set", "1", 6), ("touch", 1), ("touch", (1,)), ("touch", "1")])
        self.assertEqual(flush_plan(trace, 3), ([9], [(4, 9)]))

    def test_lists_are_new(self):
        trace = [("set", "a", 1), ("touch", "a"), ("set", "a", 2), ("touch", "a")]
        result = flush_plan(trace, 1)
        self.assertIsInstance(result, tuple)
        self.assertIsInstance(result[1][0], tuple)
        trace.clear()
        self.assertEqual(result, ([3], [(1, 3)]))
        trace.extend([("set", "a", 1), ("touch", "a"), ("set", "a", 2), ("touch", "a")])
        result[0].clear()
        result[1].append(None)
        self.assertEqual(flush_plan(trace, 1), ([3], [(1, 3)]))


if __name__ == "__main__":
    unittest.main()
