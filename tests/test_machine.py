"""Points 78 to 84: machines in houses of many kinds beside a plain one, with random code."""

import random
import unittest
from math import prod

from lentpages.codes import assemble
from lentpages.house import House
from lentpages.machine import Machine
from tests.house_twins import CHOOSERS, check_house
from tests.plain import outcome
from tests.plain_house import PlainHouse
from tests.plain_machine import PlainMachine, random_code


class CountingHouse(House):
    """A house that counts the bytes that are read and written."""

    counted = 0

    def read(self, space, address, length, *, right="r", hand=0):
        self.counted += length
        return House.read(self, space, address, length, right=right, hand=hand)

    def write(self, space, address, data, *, hand=0):
        self.counted += len(data)
        House.write(self, space, address, data, hand=hand)


def state(machine):
    return (machine.outcome(), machine.registers(), machine.next_address(), machine.executed())


SHAPES = (((8, 2), 4), ((4, 4), 5), ((4, 5), 3), ((2, 2, 2), 16), ((8,), 16), ((8, 8), 2))


def scene(rng, widths, page_size):
    """Deeds that make a space 0 with code, and the first address of the code."""
    last = prod(widths) - 1
    start = rng.choice((0, 0, 0, 1, page_size))
    code = random_code(rng, prod(widths) * page_size, start)[:(last - 2) * page_size - start]
    pages = (start + len(code) - 1) // page_size + 1
    kind = rng.choice(("map_private", "map_private", "map_shared"))
    deeds = [
        ("create_space",), ("create_file", "code", pages), ("create_file", "data", 2),
        ("write_file", "code", start, code),
        (kind, 0, 0, pages, rng.choice(("rwx",) * 5 + ("rx", "x")), "code", 0),
        ("map_plain", 0, pages, last + 1 - pages, "rw"), ("map_shared", 0, last, 1, "rw", "data", 1),
    ]
    if kind == "map_private" and rng.random() < 0.8:
        deeds += [("unmap", 0, pages, 1), ("delete_file", "code"), ("map_plain", 0, pages, 1, "rw")]
    elif rng.random() < 0.5:
        # A page of code that can be written in two places.
        deeds.append(("map_shared", 0, last - 1, 1, "rw", "code", 0))
    extras = (
        ("unmap", 0, last - 1, 1), ("protect", 0, last - 1, 1, "r"), ("protect", 0, last - 1, 1, "w"),
        ("resize_file", "data", 1), ("fork_space", 0), ("write", 0, last * page_size, [9]), ("checkpoint",),
    )
    return deeds + rng.sample(extras, rng.choice((0, 1, 2, 3))), start


def do_all(house, deeds):
    """Does the deeds, but for those that another one has made impossible; returns the most stamps on the way."""
    most = 0
    for name, *args in deeds:
        outcome(getattr(house, name), *args)
        most = max(most, len(house.stamps()))
    return most


class RandomCodeTest(unittest.TestCase):
    def setting(self, seed):
        """A plain house and a house with few frames, with the same code; the first address of the code."""
        rng = random.Random(seed)
        widths, page_size = rng.choice(SHAPES)
        deeds, start = scene(rng, widths, page_size)
        plain = PlainHouse(widths=widths, page_size=page_size, limit=1000)
        plain.limit = do_all(plain, deeds) + rng.choice((0, 1, 2, 4, 40))
        frames = min(plain.limit, rng.choice((1, 2, 3, 5, 99)))
        places = rng.randrange(2) if frames == plain.limit else plain.limit - frames + 1
        house = CountingHouse(
            widths=widths, page_size=page_size, frames=frames, places=places, hands=2, cache=rng.randrange(6),
            chooser=rng.choice(CHOOSERS),
        )
        do_all(house, deeds)
        return rng, plain, house, start

    def compare(self, house, plain):
        """Compares all stamps and bytes."""
        for name in ("spaces", "stamps", "copies"):
            self.assertEqual(getattr(house, name)(), getattr(plain, name)())
        for space in plain.spaces():
            for page in range(plain.page_count):
                self.assertEqual(outcome(house.stamp_at, space, page), outcome(plain.stamp_at, space, page))
                found = outcome(house.read, space, page * plain.page_size, plain.page_size)
                self.assertEqual(found, outcome(plain.read, space, page * plain.page_size, plain.page_size))
        for name, size in plain.files():
            length = size * plain.page_size
            self.assertEqual(house.read_file(name, 0, length), plain.read_file(name, 0, length))

    def event(self, rng, house):
        """An event or a question between ticks."""
        stamp = rng.choice(house.stamps() + [0])
        kind = rng.randrange(6)
        if kind == 0:
            house.put_out(stamp)
        elif kind == 1:
            for live in house.stamps():
                house.put_out(live)
        elif kind == 2:
            house.bring_in(stamp)
        elif kind == 3:
            house.empty_cache(rng.randrange(2))
        else:
            counted = house.counted
            outcome(house.read, 0, 0, house.page_size)
            outcome(house.check, 0, 0, 9, right="w")
            outcome(house.growth, 0, 0, 5)
            house.counted = counted

    def run_ticks(self, machine, plain_machine, rng, house):
        """Ticks until an instruction has ended, with events in between."""
        before = state(machine)
        plain_machine.step()
        for number in range(2 * plain_machine.data_count + 10):
            self.assertEqual(state(machine), before)
            if rng.random() < 0.5:
                self.event(rng, house)
            house.counted = 0
            ended = machine.tick()
            self.assertLessEqual(house.counted, 1)
            if ended:
                self.assertIs(ended, True)
                return
            self.assertIs(ended, False)
        self.fail("more ticks than the document allows")

    def test_resume(self):
        ends = {}
        for seed in range(300):
            rng, plain, house, start = self.setting(seed)
            machine = Machine(house, 0, start=start, hand=1)
            plain_machine = PlainMachine(plain, 0, start=start)
            for _ in range(30):
                if rng.random() < 0.3:
                    plain_machine.step()
                    self.assertEqual(machine.step(), plain_machine.end)
                else:
                    self.run_ticks(machine, plain_machine, rng, house)
                self.assertEqual(state(machine), plain_machine.state(), seed)
                check_house(self, house, plain)
            self.compare(house, plain)
            word = (machine.outcome() or ("none",))[:2]
            ends[word] = ends.get(word, 0) + 1
        for word in ("code", "range", "unmapped", "denied", "beyond", "room"):
            self.assertGreater(ends.get(("trap", word), 0), 1, ends)
        self.assertGreater(ends[("halt",)], 3)

    def test_restart(self):
        ends = {}
        for seed in range(300):
            rng, plain, house, start = self.setting(5000 + seed)
            machine = Machine(house, 0, start=start, hand=1, mode="restart")
            plain_machine = PlainMachine(plain, 0, start=start, frames=house.frames)
            for _ in range(30):
                self.event(rng, house)
                plain_machine.step()
                self.assertIs(machine.tick(), True)
                self.assertEqual(state(machine), plain_machine.state(), seed)
                self.check_frames(house, plain_machine)
                self.assertEqual(house.stamps(), plain.stamps())
                check_house(self, house, plain)
            self.compare(house, plain)
            word = (machine.outcome() or ("none",))[:2]
            ends[word[:1] + word[1:] * (word[0] == "trap")] = 1
        self.assertEqual(len(ends), 9, ends)

    def check_frames(self, house, plain_machine):
        """Just after an instruction its stamps are in frames, and none of them is pinned."""
        if plain_machine.end is None:
            self.assertLessEqual(plain_machine.stamps(), set(house.in_frames()))
        # With as many places as stamps each one can be put out.
        if len(house.sweep()) >= len(house.stamps()):
            for stamp in house.in_frames():
                self.assertIs(house.put_out(stamp), True)

    def test_both_modes_with_enough_frames(self):
        for seed in range(60):
            found = []
            for mode in ("resume", "restart"):
                rng = random.Random(seed)
                house = House(widths=(4, 2), page_size=4, frames=40, places=9)
                deeds, start = scene(rng, (4, 2), 4)
                do_all(house, deeds)
                machine = Machine(house, 0, start=start, mode=mode)
                machine.run(40)
                found.append((state(machine), house.stamps(), [house.stamp_at(0, 0)], house.copies(), house.spaces()))
            self.assertEqual(found[0], found[1])

    def test_run(self):
        for seed in range(120):
            rng, plain, house, start = self.setting(900 + seed)
            machine, plain_machine = Machine(house, 0, start=start), PlainMachine(plain, 0, start=start)
            for _ in range(8):
                begun = rng.randrange(3)
                for _ in range(begun):
                    machine.tick()
                limit = rng.randrange(5)
                # Less than four ticks never end an instruction, but they may stop the machine.
                for _ in range(max(limit, 1)):
                    plain_machine.step()
                found = machine.run(max(limit, 1))
                self.assertEqual((found, state(machine)), (plain_machine.end, plain_machine.state()))
            self.compare(house, plain)


if __name__ == "__main__":
    unittest.main()
