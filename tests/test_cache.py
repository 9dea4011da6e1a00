"""Point 14: translation caches."""

import random
import unittest

from lentpages.cache import Cache
from tests.plain import outcome

KEYS = (
    0, 1, -1, -2, 2, 10 ** 30, -10 ** 30, "", "1", "a", "rw", (), (1,), ("1",), (0, 1), (1, 0), (1, "1"), ("a", -1),
    (-1,), (-2,), *range(100, 160),
)
VALUES = (0, 1, -7, 10 ** 25, "", "0", "seven", (), (0,), (1, "r"), ("",))


class PlainCache:
    """A list of entries, the most recently used one last."""

    def __init__(self, capacity):
        self.capacity = capacity
        self.rows = []

    def find(self, key):
        return [row for row in self.rows if row[0] == key]

    def look(self, key):
        for row in self.find(key):
            self.rows.remove(row)
            self.rows.append(row)
            return row[1]
        return None

    def fill(self, key, value):
        if self.capacity == 0:
            return None
        self.rows = [row for row in self.rows if row[0] != key] + [(key, value)]
        return self.rows.pop(0)[0] if len(self.rows) > self.capacity else None

    def drop(self, key):
        found = self.find(key)
        self.rows = [row for row in self.rows if row[0] != key]
        return found != []

    def clear_all(self):
        count = len(self.rows)
        self.rows = []
        return count

    def entries(self):
        return list(self.rows)


def random_call(rng, keys):
    """A call of a method of a cache."""
    name = rng.choice(("look", "look", "fill", "fill", "fill", "fill", "drop", "clear_all"))
    if name == "clear_all":
        return ("clear_all",) if rng.random() < 0.1 else ("entries",)
    if name == "fill":
        return ("fill", rng.choice(keys), rng.choice(VALUES))
    return (name, rng.choice(keys))


class PlainCacheTest(unittest.TestCase):
    def test_random_calls(self):
        for capacity in (0, 1, 2, 3, 5, 8, 17, 63, 64, 70):
            rng = random.Random(capacity)
            cache = Cache(capacity)
            plain = PlainCache(capacity)
            keys = KEYS if capacity > 9 else rng.sample(KEYS[:20], 2 * capacity + 2)
            for _ in range(600):
                name, *args = random_call(rng, keys)
                with self.subTest(capacity=capacity, name=name, args=args):
                    self.assertEqual(outcome(getattr(cache, name), *args), outcome(getattr(plain, name), *args))
                    self.assertEqual(cache.entries(), plain.rows)
            for key in keys:
                self.assertIs(key in cache, plain.find(key) != [])
            self.assertEqual(cache.entries(), plain.rows)


class CacheTest(unittest.TestCase):
    def filled(self, capacity, keys):
        cache = Cache(capacity)
        for key in keys:
            cache.fill(key, 10)
        return cache

    def keys(self, cache):
        return [key for key, _ in cache.entries()]

    def test_look_makes_an_entry_the_most_recently_used_one(self):
        cache = self.filled(3, "abc")
        self.assertEqual(cache.look("a"), 10)
        self.assertEqual(self.keys(cache), ["b", "c", "a"])
        self.assertIsNone(cache.look("z"))
        self.assertEqual(self.keys(cache), ["b", "c", "a"])

    def test_in_changes_nothing(self):
        cache = self.filled(2, "ab")
        self.assertIs("a" in cache, True)
        self.assertIs("z" in cache, False)
        self.assertEqual(self.keys(cache), ["a", "b"])
        self.assertEqual(cache.fill("c", 1), "a")

    def test_fill_replaces_a_value(self):
        cache = self.filled(2, "ab")
        self.assertIsNone(cache.fill("a", 11))
        self.assertEqual(cache.entries(), [("b", 10), ("a", 11)])

    def test_fill_returns_the_key_that_left(self):
        for keys in ((0, 1), ("", "a"), ((), (1,)), (5, "5")):
            cache = self.filled(1, keys[:1])
            self.assertEqual(cache.fill(keys[1], 3), keys[0])
            self.assertEqual(cache.entries(), [(keys[1], 3)])

    def test_capacity_0(self):
        cache = Cache(0)
        self.assertIsNone(cache.fill("a", 1))
        self.assertIsNone(cache.fill("a", 2))
        self.assertIsNone(cache.look("a"))
        self.assertEqual((cache.entries(), "a" in cache, cache.drop("a"), cache.clear_all()), ([], False, False, 0))

    def test_values_that_are_empty_or_zero(self):
        cache = Cache(3)
        for key, value in ((1, 0), (2, ""), (3, ())):
            cache.fill(key, value)
            self.assertEqual(cache.look(key), value)
            self.assertIn(key, cache)
        self.assertEqual(cache.entries(), [(1, 0), (2, ""), (3, ())])

    def test_like_looking_keys_are_different(self):
        keys = [1, "1", (1,), ("1",)]
        cache = Cache(4)
        for number, key in enumerate(keys):
            cache.fill(key, number)
        self.assertEqual(cache.entries(), list(zip(keys, range(4))))
        self.assertIs(cache.drop("1"), True)
        self.assertEqual([cache.look(key) for key in keys], [0, None, 2, 3])
        self.assertEqual([key in cache for key in keys], [True, False, True, True])

    def test_drop_and_clear_all(self):
        cache = self.filled(4, "abc")
        self.assertIs(cache.drop("b"), True)
        self.assertIs(cache.drop("b"), False)
        self.assertEqual(self.keys(cache), ["a", "c"])
        self.assertEqual([cache.clear_all(), cache.clear_all(), cache.entries()], [2, 0, []])

    def test_lists_are_new(self):
        cache = self.filled(2, "a")
        entries = cache.entries()
        entries.append(("z", 1))
        entries[0] = None
        self.assertEqual(cache.entries(), [("a", 10)])
        cache.clear_all()
        self.assertEqual(entries, [None, ("z", 1)])

    def test_two_caches_are_apart(self):
        first = self.filled(2, "ab")
        second = Cache(2)
        second.fill("c", 1)
        self.assertEqual((self.keys(first), self.keys(second)), (["a", "b"], ["c"]))


if __name__ == "__main__":
    unittest.main()
