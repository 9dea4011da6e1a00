"""Points 15 to 17: kinds of changes, traces, and which kinds are safe."""

import random
import unittest
from copy import deepcopy
from itertools import combinations, product

from lentpages.droprules import change_kind, is_safe, play_trace, unsafe_trace

KINDS = ("same", "gain", "loss", "move")
SUBSETS = [list(some) for size in range(5) for some in combinations(KINDS, size)]
EVENTS = [("touch", 1), ("touch", 2), ("flush",)]
EVENTS.extend([("set", key, value) for key in (1, 2) for value in (None, 5, 6)])


def plain_kind(old, new):
    """The kind of a change by the table of the document."""
    if old == new:
        return "same"
    return {(True, False): "gain", (False, True): "loss", (False, False): "move"}[(old is None, new is None)]


def plain_play(trace, capacity, kinds):
    """Plays a trace with a list of entries, the most recently used one last, and a plain table."""
    table = {}
    entries = []
    pairs = []
    for name, *rest in trace:
        if name == "set":
            key, value = rest
            if plain_kind(table.get(key), value) in kinds:
                entries = [entry for entry in entries if entry[0] != key]
            table[key] = value
        elif name == "touch":
            key = rest[0]
            found = [entry for entry in entries if entry[0] == key]
            entries = [entry for entry in entries if entry[0] != key]
            if not found and table.get(key) is not None:
                found = [(key, table[key])]
            entries = (entries + found)[-capacity:] if capacity else []
            pairs.append((found[0][1] if found else None, table.get(key)))
        else:
            entries = []
    return pairs


def random_trace(rng, length):
    """A trace with keys and values of all sorts."""
    keys = rng.sample((1, "1", (1,), ("1",), 0, "", -1, -2, (1, "a"), 10 ** 20), 4)
    values = (None, 0, 1, "", "x", (), (0, "a"))
    events = []
    for _ in range(length):
        key = rng.choice(keys)
        name = rng.choice(("set", "set", "touch", "touch", "touch", "flush" if rng.random() < 0.2 else "touch"))
        events.append({"set": ("set", key, rng.choice(values)), "touch": ("touch", key), "flush": ("flush",)}[name])
    return events


def sees_stale(trace, capacity, kinds):
    """Whether some touch of the trace does not see the actual value."""
    return any([seen != actual for seen, actual in play_trace(trace, capacity, kinds)])


class ChangeKindTest(unittest.TestCase):
    def test_all_kinds(self):
        for value in (None, 0, 1, -3, "", "a", (), (1, "a")):
            self.assertEqual(change_kind(value, value), "same")
        for value in (0, 1, "", "a", (), (1, "a")):
            self.assertEqual(change_kind(None, value), "gain")
            self.assertEqual(change_kind(value, None), "loss")
        for old, new in ((0, 1), (1, 0), (1, "1"), ("", 0), ((), ""), ((1,), 1), ((1,), ("1",)), ((1, 2), (2, 1))):
            self.assertEqual(change_kind(old, new), "move")

    def test_equal_values_that_were_made_apart(self):
        self.assertEqual(change_kind(tuple([1, 2]), tuple([1, 2])), "same")
        self.assertEqual(change_kind("".join(["a", "b"]), "ab"), "same")
        self.assertEqual(change_kind(10 ** 20, 10 ** 10 * 10 ** 10), "same")


class PlayTraceTest(unittest.TestCase):
    def test_random_traces(self):
        rng = random.Random(16)
        for kinds in SUBSETS:
            for capacity in (0, 1, 2, 3, 64, 70):
                for length in (0, 1, 5, 30, 200):
                    trace = random_trace(rng, length)
                    with self.subTest(trace=trace, capacity=capacity, kinds=kinds):
                        self.assertEqual(play_trace(trace, capacity, kinds), plain_play(trace, capacity, kinds))

    def test_all_short_traces(self):
        for kinds in ([], ["loss"], ["gain", "move"], list(KINDS)):
            for capacity in (0, 1, 2):
                for trace in product(EVENTS, repeat=4):
                    self.assertEqual(play_trace(list(trace), capacity, kinds), plain_play(trace, capacity, kinds))

    def test_repeated_kinds(self):
        rng = random.Random(17)
        for kinds in (["move", "move"], ["same", "loss", "same"], ["loss", "gain", "gain", "loss"]):
            for _ in range(20):
                trace = random_trace(rng, 60)
                self.assertEqual(play_trace(trace, 2, kinds), play_trace(trace, 2, sorted(set(kinds))))

    def test_what_a_touch_sees(self):
        trace = [("touch", "a"), ("set", "a", 1), ("touch", "a"), ("set", "a", 2), ("touch", "a"), ("flush",),
                 ("touch", "a"), ("set", "a", None), ("touch", "a"), ("flush",), ("touch", "a")]
        self.assertEqual(play_trace(trace, 1, []), [(None, None), (1, 1), (1, 2), (2, 2), (2, None), (None, None)])
        wanted = [(None, None), (1, 1), (2, 2), (2, 2), (2, None), (None, None)]
        self.assertEqual(play_trace(trace, 1, ["move"]), wanted)
        self.assertTrue(all([seen == actual for seen, actual in play_trace(trace, 0, [])]))

    def test_a_set_drops_its_own_key_only(self):
        trace = [("set", 1, 5), ("set", 2, 5), ("touch", 1), ("touch", 2), ("set", 1, 6), ("set", 2, 6)]
        trace.extend([("touch", 1), ("touch", 2)])
        self.assertEqual(play_trace(trace[:5] + trace[6:], 2, ["move"])[2:], [(6, 6), (5, 5)])
        self.assertEqual(play_trace(trace, 2, [])[2:], [(5, 6), (5, 6)])

    def test_a_set_to_the_same_value_drops_the_key_if_told_so(self):
        trace = [("set", 1, 5), ("touch", 1), ("set", 1, 5), ("set", 1, 6), ("touch", 1)]
        self.assertEqual(play_trace(trace, 2, []), [(5, 5), (5, 6)])
        self.assertEqual(play_trace(trace, 2, ["same"]), [(5, 5), (6, 6)])

    def test_lists_stay_as_they_are(self):
        rng = random.Random(18)
        trace = random_trace(rng, 50)
        kinds = ["move", "loss", "move"]
        before = deepcopy((trace, kinds))
        result = play_trace(trace, 2, kinds)
        self.assertEqual((trace, kinds), before)
        wanted = list(result)
        self.assertTrue(all([isinstance(pair, tuple) for pair in result]))
        trace.clear()
        kinds.clear()
        self.assertEqual(result, wanted)
        result.clear()
        self.assertEqual(play_trace(before[0], 2, before[1]), wanted)


class SafeTest(unittest.TestCase):
    def kind_lists(self):
        """All lists of different kinds, some also in another order and with repeated kinds."""
        lists = [list(kinds) for kinds in SUBSETS]
        lists.extend([kinds[::-1] + kinds for kinds in SUBSETS])
        return lists

    def test_is_safe(self):
        for kinds in self.kind_lists():
            for capacity in (0, 1, 2, 64, 70):
                wanted = capacity == 0 or ("loss" in kinds and "move" in kinds)
                self.assertIs(is_safe(kinds, capacity), wanted)

    def test_no_trace_is_stale_where_it_is_safe(self):
        rng = random.Random(19)
        short = [list(trace) for trace in product(EVENTS, repeat=4)]
        for kinds in SUBSETS:
            for capacity in (0, 1, 2):
                if is_safe(kinds, capacity):
                    traces = short + [random_trace(rng, 150) for _ in range(10)]
                    self.assertFalse(any([sees_stale(trace, capacity, kinds) for trace in traces]))

    def test_unsafe_traces(self):
        for kinds in self.kind_lists():
            before = list(kinds)
            for capacity in (0, 1, 2, 64, 70):
                with self.subTest(kinds=kinds, capacity=capacity):
                    trace = unsafe_trace(kinds, capacity)
                    self.assertEqual(kinds, before)
                    if is_safe(kinds, capacity):
                        self.assertIsNone(trace)
                    else:
                        self.check_unsafe(trace, capacity, kinds)

    def check_unsafe(self, trace, capacity, kinds):
        self.assertIsInstance(trace, list)
        self.assertEqual(len(trace), 4)
        for event in trace:
            self.assertIsInstance(event, tuple)
            self.assertIn((event[0], len(event)), (("set", 3), ("touch", 2)))
        self.assertEqual(trace[-1][0], "touch")
        seen, actual = play_trace(trace, capacity, kinds)[-1]
        self.assertNotEqual(seen, actual)
        self.assertEqual((seen, actual), plain_play(trace, capacity, kinds)[-1])

    def test_no_trace_of_three_events_is_stale(self):
        for kinds in SUBSETS:
            for capacity in (1, 2):
                for length in range(4):
                    traces = product(EVENTS, repeat=length)
                    self.assertFalse(any([sees_stale(list(trace), capacity, kinds) for trace in traces]))

    def test_each_list_is_new(self):
        trace = unsafe_trace([], 1)
        wanted = list(trace)
        trace.clear()
        self.assertEqual(unsafe_trace([], 1), wanted)


if __name__ == "__main__":
    unittest.main()
