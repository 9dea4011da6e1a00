"""Points 39 and 40: whether ledgers and sweeps agree."""

import random
import unittest
from collections import Counter
from copy import deepcopy

from lentpages.ledger import bags_agree, first_lie
from lentpages.pager import Pager
from tests.plain import outcome
from tests.plain_frames import KINDS, random_step


def plain_agree(places, rows, sweep):
    """Counts the tuples that are left and found."""
    left = Counter([(place, 0, 0) for place in range(places)])
    found = Counter(sweep)
    for position, row in enumerate(rows):
        left[(row[0], row[3], position + 1)] += 1
        found[row[:3]] += 1
        if row[2] >= position + 1:
            return False
    return left == found


def last_left(rows, place):
    """What the rows left last at a place, by looking backwards."""
    for position in range(len(rows) - 1, -1, -1):
        if rows[position][0] == place:
            return (rows[position][3], position + 1)
    return (0, 0)


def plain_lie(places, rows, sweep):
    """The first row that is a lie, then the sweep."""
    for position, row in enumerate(rows):
        if row[1:3] != last_left(rows[:position], row[0]):
            return position
    true_sweep = [(place, *last_left(rows, place)) for place in range(places)]
    return None if sorted(sweep) == true_sweep else len(rows)


def true_ledger(rng, kind, steps):
    """The number of places, the ledger and the sweep of a pager after random steps."""
    frames = rng.randint(1, 4)
    places = rng.randint(0, 5)
    pager = Pager(frames, places, 2, chooser=kind)
    for _ in range(steps):
        name, *args = random_step(rng, pager, 2)
        outcome(getattr(pager, name), *args)
    return (places, pager.ledger(), pager.sweep())


def changed_tuple(rng, row, places):
    """A row or a tuple of the sweep with one number changed."""
    at = rng.randrange(len(row))
    if at == 0:
        return (rng.randrange(places),) + row[1:]
    return row[:at] + (max(0, row[at] + rng.choice((-2, -1, 1, 2, 90))),) + row[at + 1:]


def changed_rows(rng, places, rows):
    """Rows of which one was changed, exchanged with another one, repeated or left out."""
    rows = list(rows)
    at = rng.randrange(len(rows))
    other = rng.randrange(len(rows))
    kind = rng.choice(("change", "exchange", "exchange parts", "repeat", "leave out", "late", "replace"))
    if kind == "change":
        rows[at] = changed_tuple(rng, rows[at], places)
    elif kind == "exchange":
        rows[at], rows[other] = rows[other], rows[at]
    elif kind == "exchange parts":
        rows[at], rows[other] = rows[at][:1] + rows[other][1:], rows[other][:1] + rows[at][1:]
    elif kind == "repeat":
        rows.insert(other, rows[at])
    elif kind == "leave out":
        del rows[at]
    elif kind == "late":
        rows[at] = rows[at][:2] + (at + rng.randint(1, 3),) + rows[at][3:]
    else:
        rows[at] = rows[at][:1] + rows[other][1:3] + rows[at][3:]
    return rows


def changed_sweep(rng, places, sweep):
    """A sweep with one place told otherwise, or with what two places remember exchanged."""
    sweep = list(sweep)
    at = rng.randrange(places)
    other = rng.randrange(places)
    if rng.random() < 0.5:
        sweep[at], sweep[other] = (at,) + sweep[other][1:], (other,) + sweep[at][1:]
    else:
        sweep[at] = (at,) + changed_tuple(rng, sweep[at], places)[1:]
    return sweep


class LedgerTest(unittest.TestCase):
    def check(self, places, rows, sweep):
        """Compares both functions with the plain ones and with each other; returns the position of the lie."""
        before = deepcopy((rows, sweep))
        with self.subTest(places=places, rows=rows, sweep=sweep):
            agree = bags_agree(places, rows, sweep)
            lie = first_lie(places, rows, sweep)
            self.assertEqual((rows, sweep), before)
            self.assertIs(agree, plain_agree(places, rows, sweep))
            self.assertEqual(lie, plain_lie(places, rows, sweep))
            self.assertIs(agree, lie is None)
        return lie

    def test_ledgers_of_pagers(self):
        rng = random.Random(39)
        for kind in KINDS:
            for steps in (0, 3, 20, 150):
                self.assertIsNone(self.check(*true_ledger(rng, kind, steps)))

    def test_changed_ledgers(self):
        rng = random.Random(40)
        lies = []
        for number in range(600):
            places, rows, sweep = true_ledger(rng, KINDS[number % 4], rng.choice((6, 15, 40)))
            if rows and rng.random() < 0.75:
                rows = changed_rows(rng, places, rows)
            elif places:
                sweep = changed_sweep(rng, places, sweep)
            lie = self.check(places, rows, sweep)
            lies.append("none" if lie is None else "sweep" if lie == len(rows) else "row")
        self.assertEqual(set(lies), {"none", "sweep", "row"})

    def test_several_changes_at_once(self):
        rng = random.Random(41)
        for number in range(300):
            places, rows, sweep = true_ledger(rng, KINDS[number % 4], 15)
            for _ in range(rng.randint(2, 4)):
                if rows:
                    rows = changed_rows(rng, places, rows)
                if places:
                    sweep = changed_sweep(rng, places, sweep)
            self.check(places, rows, sweep)

    def test_lists_that_are_not_of_a_pager(self):
        rng = random.Random(42)
        for _ in range(2000):
            places = rng.randint(1, 2)
            rows = []
            for at in range(rng.randint(0, 3)):
                row = (rng.randrange(places), rng.randrange(2), rng.randrange(at + 2), rng.randrange(2))
                rows.append(row)
            sweep = [(place, rng.randrange(2), rng.randrange(len(rows) + 2)) for place in range(places)]
            self.check(places, rows, sweep)

    def test_no_rows(self):
        self.assertIsNone(self.check(0, [], []))
        self.assertIsNone(self.check(2, [], [(0, 0, 0), (1, 0, 0)]))
        self.assertEqual(self.check(2, [], [(0, 0, 0), (1, 0, 1)]), 0)
        self.assertEqual(self.check(2, [], [(0, 5, 0), (1, 0, 0)]), 0)

    def test_times_that_are_too_late_or_equal(self):
        # Two rows find what the other one leaves: the bags are equal, but the times are not earlier.
        rows = [(0, 5, 2, 5), (0, 5, 1, 5)]
        self.assertEqual(self.check(1, rows, [(0, 0, 0)]), 0)
        self.assertEqual(self.check(1, [(0, 5, 1, 5)], [(0, 0, 0)]), 0)
        self.assertEqual(self.check(1, [(0, 0, 0, 5), (0, 5, 2, 5)], [(0, 5, 1)]), 1)

    def test_positions_of_lies(self):
        rows = [(0, 0, 0, 7), (1, 0, 0, 8), (0, 7, 1, 7), (1, 8, 2, 9)]
        sweep = [(0, 7, 3), (1, 9, 4)]
        self.assertIsNone(self.check(2, rows, sweep))
        self.assertEqual(self.check(2, rows, [(0, 7, 1), (1, 9, 4)]), 4)
        for at in range(4):
            for wrong in ((rows[at][0], rows[at][1] + 1, rows[at][2]), (rows[at][0], rows[at][1], rows[at][2] + 1)):
                changed = rows[:at] + [wrong + rows[at][3:]] + rows[at + 1:]
                self.assertEqual(self.check(2, changed, sweep), at)
                self.assertEqual(self.check(2, changed, [(0, 0, 0), (1, 0, 0)]), at)


if __name__ == "__main__":
    unittest.main()
