"""Point 31: the fewest page-ins of a trace."""

import random
import unittest
from itertools import product

from lentpages.fewest import fewest_page_ins
from lentpages.traces import page_ins
from tests.plain_frames import KINDS


def plain_reuses(trace):
    """All pairs of positions of the same page with no use of it between them."""
    pairs = [(i, j) for j in range(len(trace)) for i in range(j) if trace[i] == trace[j]]
    return [(i, j) for i, j in pairs if trace[j] not in trace[i + 1:j]]


def searched_number(trace, frames):
    """The least number of page-ins over all ways of choosing frames."""
    costs = {frozenset(): 0}
    for page in trace:
        later = {}
        for held, cost in costs.items():
            if page in held:
                choices = [(held, cost)]
            elif len(held) < frames:
                choices = [(held | {page}, cost + 1)]
            else:
                choices = [(held - {other} | {page}, cost + 1) for other in held]
            for chosen, price in choices:
                later[chosen] = min(price, later.get(chosen, price))
        costs = later
    return min(costs.values())


def random_trace(rng, length, pages):
    """A trace of that many pages, evenly mixed, in turns, or with pages that come in bursts."""
    kind = rng.randrange(4)
    if kind == 0:
        return [rng.randrange(pages) - 2 for _ in range(length)]
    if kind == 1:
        return [(at * 7) % pages for at in range(length)]
    if kind == 2:
        return [min(rng.randrange(pages), rng.randrange(pages)) * 10 ** 12 for _ in range(length)]
    trace = []
    while len(trace) < length:
        low = rng.randrange(pages)
        trace.extend([rng.randint(low, min(pages, low + 3)) for _ in range(rng.randint(1, 15))])
    return trace[:length]


class FewestTest(unittest.TestCase):
    def check(self, trace, frames):
        """Checks all that point 31 says of the three answers; returns the number."""
        before = list(trace)
        result = fewest_page_ins(trace, frames)
        self.assertEqual(trace, before)
        with self.subTest(trace=trace, frames=frames, result=result):
            self.assertIsInstance(result, tuple)
            number, kept, cuts = result
            reuses = plain_reuses(trace)
            self.assertEqual((kept, cuts), (sorted(set(kept)), sorted(set(cuts))))
            self.assertEqual([reuse for reuse in kept if reuse not in reuses], [])
            self.assertEqual([cut for cut in cuts if cut not in range(len(trace))], [])
            for at in range(len(trace)):
                self.assertLessEqual(len([i for i, j in kept if i < at < j]), frames - 1)
            uncut = [(i, j) for i, j in reuses if not any([i < cut < j for cut in cuts])]
            self.assertEqual(len(kept), (frames - 1) * len(cuts) + len(uncut))
            self.assertEqual(number, len(trace) - len(kept))
        return number

    def test_random_traces(self):
        rng = random.Random(31)
        for frames in (1, 2, 3, 4, 6, 9, 12, 64):
            for length in (0, 1, 2, 5, 12, 40, 90):
                for pages in (1, 2, 4, 7, 15):
                    self.check(random_trace(rng, length, pages), frames)

    def test_long_traces(self):
        rng = random.Random(32)
        for frames in (1, 2, 5, 11, 30):
            for pages in (3, 12, 25, 60, 250):
                self.check(random_trace(rng, 200, pages), frames)
        self.check(random_trace(rng, 260, 20), 7)

    def test_all_short_traces(self):
        for frames in (1, 2, 3):
            for trace in product((0, 1, 2, 3), repeat=6):
                self.assertEqual(self.check(list(trace), frames), searched_number(trace, frames))

    def test_the_least_number(self):
        rng = random.Random(33)
        for frames in (1, 2, 3, 4, 5):
            for _ in range(40):
                trace = random_trace(rng, rng.randint(5, 22), rng.randint(1, 7))
                self.assertEqual(self.check(trace, frames), searched_number(trace, frames))

    def test_never_more_than_any_chooser(self):
        rng = random.Random(34)
        saved = 0
        for frames in (1, 2, 3, 6, 12):
            for length in (0, 10, 60, 200):
                trace = random_trace(rng, length, rng.randint(1, 20))
                number = fewest_page_ins(trace, frames)[0]
                for kind in KINDS:
                    positions = page_ins(trace, frames, kind)
                    self.assertLessEqual(number, len(positions))
                    saved += len(positions) - number
        self.assertGreater(saved, 0)


class EdgeTest(unittest.TestCase):
    def test_the_example_of_the_document(self):
        number, kept, _ = fewest_page_ins([1, 2, 3, 1, 2], 2)
        self.assertEqual((number, len(kept)), (4, 1))

    def test_an_empty_trace(self):
        self.assertEqual(fewest_page_ins([], 1), (0, [], []))
        self.assertEqual(fewest_page_ins([], 5), (0, [], []))

    def test_one_frame_keeps_what_is_used_twice_in_a_row(self):
        self.assertEqual(fewest_page_ins([5, 5, 0, 5, 0, 0, -5], 1)[:2], (5, [(0, 1), (4, 5)]))

    def test_more_frames_than_pages_keep_all_reuses(self):
        trace = [3, 1, 3, 2, 1, 3, 3]
        for frames in (3, 4, 64, 70):
            self.assertEqual(fewest_page_ins(trace, frames)[:2], (3, sorted(plain_reuses(trace))))

    def test_pages_in_turns(self):
        self.assertEqual(fewest_page_ins([1, 2, 3] * 4, 2)[0], 7)
        self.assertEqual(fewest_page_ins([1, 2, 3] * 4, 1)[0], 12)

    def test_lists_are_new(self):
        trace = [1, 2, 3, 1, 2]
        result = fewest_page_ins(trace, 2)
        wanted = (result[0], list(result[1]), list(result[2]))
        trace.clear()
        result[1].clear()
        result[2].append(9)
        self.assertEqual(fewest_page_ins([1, 2, 3, 1, 2], 2), wanted)


if __name__ == "__main__":
    unittest.main()
