"""Points 57 to 60 and 65: frames, places, caches and events of a house."""

import random
import unittest

from lentpages.errors import Denied, NoRoom, PagesError, Starved
from lentpages.house import House
from lentpages.ledger import bags_agree, first_lie
from tests.house_twins import CHOOSERS, Deeds, check_house, may_be_cached
from tests.plain import outcome
from tests.plain_house import PlainHouse


class PlainCaches:
    """The caches of a house that has a frame for each stamp, worked out page by page beside a plain house."""

    def __init__(self, plain, hands, capacity):
        self.plain = plain
        self.caches = [[] for _ in range(hands)]
        self.capacity = capacity
        self.walks = 0
        # The stamps that were put out by put_out and not used since.
        self.out = set()

    def in_frames(self):
        return [stamp for stamp in self.plain.stamps() if stamp not in self.out]

    def keep_only(self, test):
        self.caches = [[key for key in keys if test(key)] for keys in self.caches]

    def prune(self):
        in_frames = self.in_frames()
        self.keep_only(lambda key: may_be_cached(self.plain, key, in_frames))
        self.out &= set(self.plain.stamps())

    def do(self, name, *args, **more):
        """Does a deed on the plain house, and what it does to the caches."""
        if name in ("read", "write", "read_file", "write_file"):
            return self.access(name, *args, **more)
        if name == "attempt":
            return self.attempt(args[0])
        if name in ("map_plain", "map_shared", "map_private", "unmap", "delete_space"):
            pages = range(args[1], args[1] + args[2]) if len(args) > 1 else range(self.plain.page_count)
            found = getattr(self.plain, name)(*args)
            self.keep_only(lambda key: key[0] != args[0] or key[1] not in pages)
        else:
            found = getattr(self.plain, name)(*args, **more)
        if name in ("go_back", "crash"):
            self.keep_only(lambda key: False)
            self.out = set() if name == "crash" else self.out
        self.prune()
        return found

    def attempt(self, deeds):
        number = self.do("checkpoint")
        answers = []
        try:
            for deed in deeds:
                answers.append(self.do(*deed))
        except PagesError:
            self.do("go_back", number)
            self.do("forget", number)
            raise
        self.do("forget", number)
        return answers

    def access(self, name, owner, address, content, *, right="r", hand=0):
        """Uses the bytes, one page after the other."""
        length = len(content) if name[:5] == "write" else content
        right = "w" if name == "write" else right
        # Whatever is wrong with one page is raised before the first one is used.
        self.check(name, owner, address, length, right)
        found = []
        while length:
            part = min(length, self.plain.page_size - address % self.plain.page_size)
            page = address // self.plain.page_size
            piece = content[:part] if name[:5] == "write" else part
            if name[-5:] == "_file":
                slot, key = (self.plain.paper(owner)[1], page), None
            else:
                slot, key = self.plain.slot(owner, page), (owner, page, right)
            more = {"right": right} if name == "read" else {}
            self.use(slot, key, hand, lambda: getattr(self.plain, name)(owner, address, piece, **more), found)
            content = content[part:] if name[:5] == "write" else content
            address, length = address + part, length - part
        return None if name[:5] == "write" else [byte for bytes_read in found for byte in bytes_read]

    def check(self, name, owner, address, length, right):
        if name[-5:] == "_file":
            places = self.plain.file_places(owner, address, length)
        else:
            places = self.plain.places(owner, address, length, right)
        if name[:5] == "write":
            self.plain.check_room([slot for slot, _ in places])

    def use(self, slot, key, hand, deed, found):
        """Uses one page; the stamps that it has before and after are in frames then."""
        keys = self.caches[hand]
        known = key in keys
        if known:
            keys.remove(key)
            keys.append(key)
        elif key:
            self.walks += 1
        old = self.plain.library.stamp_of(*slot)
        shared = len(self.plain.library.holders(old)) > 1
        found.append(deed())
        self.out -= {old, self.plain.library.stamp_of(*slot)}
        if found[-1] is None and shared:
            self.keep_only(lambda other: self.plain.slot(*other[:2]) != slot)
        self.prune()
        if key and not known and may_be_cached(self.plain, key, self.in_frames()):
            self.caches[hand] = (self.caches[hand] + [key])[-self.capacity:] if self.capacity else []


class PlainCachesTest(unittest.TestCase):
    def run_deeds(self, seed, steps):
        rng = random.Random(seed)
        frames = rng.choice((5, 9, 14))
        places, hands, capacity = rng.randrange(2), rng.randint(1, 4), rng.choice((0, 1, 2, 3, 6, 64))
        house = House(
            widths=(2, 3), page_size=2, frames=frames, places=places, hands=hands, cache=capacity,
            chooser=rng.choice(CHOOSERS),
        )
        plain = PlainHouse(widths=(2, 3), page_size=2, limit=frames)
        caches = PlainCaches(plain, hands, capacity)
        deeds = Deeds(rng, plain, most_spaces=3)
        done = 0
        for _ in range(steps):
            name, args, more = deeds.next()
            if "hand" in more:
                more["hand"] %= hands
            if rng.random() < 0.01:
                name, args, more = "crash", (), {"stop": rng.randrange(60)}
            if name == "sync":
                # Which stamps are used by it is not promised.
                for stamp in caches.out:
                    house.bring_in(stamp)
                caches.out = set()
            wanted = outcome(caches.do, name, *args, **more)
            self.assertEqual(outcome(getattr(house, name), *args, **more), wanted)
            self.compare(house, caches, (seed, name, args, more))
            self.event(rng, house, caches)
            self.compare(house, caches, seed)
            done += sum([len(house.cached(hand)) for hand in range(hands)])
        return done

    def event(self, rng, house, caches):
        name = rng.choice(("put_out", "bring_in", "empty_cache") + ("nothing",) * 12)
        stamp = rng.choice(caches.plain.stamps() + [0, 9999])
        if name == "put_out" and house.put_out(stamp):
            self.assertNotIn(stamp, caches.out)
            caches.out.add(stamp)
        elif name == "bring_in":
            self.assertEqual(house.bring_in(stamp), stamp in caches.plain.stamps())
            caches.out.discard(stamp)
        elif name == "empty_cache":
            hand = rng.randrange(house.hands)
            self.assertEqual(house.empty_cache(hand), len(caches.caches[hand]))
            caches.caches[hand] = []
        caches.prune()

    def compare(self, house, caches, told):
        self.assertEqual(house.in_frames(), caches.in_frames(), told)
        self.assertEqual([house.cached(hand) for hand in range(house.hands)], caches.caches, told)
        self.assertEqual(house.walks(), caches.walks, told)
        check_house(self, house, caches.plain)

    def test_with_a_frame_for_each_stamp(self):
        self.assertGreater(sum([self.run_deeds(seed, 150) for seed in range(40)]), 4000)


class FewFramesTest(unittest.TestCase):
    """Deeds on single pages in houses whose frames do not suffice: which keys are removed, and in which order."""

    def run_deeds(self, seed):
        rng = random.Random(seed)
        frames, places = rng.choice(((1, 9), (2, 8), (3, 7), (4, 5)))
        self.capacity = rng.choice((2, 3, 64))
        house = House(widths=(2, 3), page_size=2, frames=frames, places=places, hands=2, cache=self.capacity,
                      chooser=rng.choice(CHOOSERS))
        plain = PlainHouse(widths=(2, 3), page_size=2, limit=frames + places - 1)
        for one in (house, plain):
            one.create_file("a", 3)
            one.create_space()
            one.map_plain(0, 0, 3, "rwx")
            one.map_shared(0, 3, 3, "rw", "a", 0)
        removed = 0
        for _ in range(120):
            if rng.random() < 0.05 and len(plain.spaces()) < 3:
                house.fork_space(0)
                plain.fork_space(0)
            name = rng.choice(("read", "read", "write"))
            space, page, hand = rng.choice(plain.spaces()), rng.randrange(6), rng.randrange(2)
            args = (space, 2 * page) + (([rng.randrange(256)],) if name == "write" else (1,))
            slot = plain.slot(space, page)
            holders = plain.library.holders(plain.library.stamp_of(*slot))
            before = [house.cached(0), house.cached(1)]
            walks = house.walks()
            found = outcome(getattr(house, name), *args, hand=hand)
            self.assertEqual(found, outcome(getattr(plain, name), *args))
            check_house(self, house, plain)
            key = (space, page, name[0])
            after = [house.cached(0), house.cached(1)]
            if found[0] == "raised":
                self.assertEqual((after, house.walks()), (before, walks))
                continue
            self.assertEqual(house.walks() - walks, int(key not in before[hand]))
            copied = slot if name == "write" and len(holders) > 1 else None
            removed += self.check_keys(house, plain, (before, after), (key, hand), copied)
            stamp = plain.library.stamp_of(*plain.slot(space, page))
            self.assertIn(stamp, house.in_frames() + [0])
        return removed

    def check_keys(self, house, plain, keys, used, copied):
        """Checks the keys after one page was used by its key; returns how many were removed."""
        before, after = keys
        key, hand = used
        removed = 0
        for number in (0, 1):
            wanted = [other for other in before[number] if (number, other) != (hand, key)]
            in_frames = house.in_frames()
            wanted = [
                other for other in wanted
                if may_be_cached(plain, other, in_frames) and plain.slot(*other[:2]) != copied
            ]
            if number == hand and may_be_cached(plain, key, in_frames):
                wanted = (wanted + [key])[-self.capacity:]
            self.assertEqual(after[number], wanted)
            removed += len(set(before[number]) - set(wanted))
        return removed

    def test_single_pages(self):
        self.assertGreater(sum([self.run_deeds(seed) for seed in range(30)]), 100)


def small_house(**more):
    """A house with a space whose four plain pages of two bytes may be used in each way."""
    house = House(**{"widths": (4,), "page_size": 2, "frames": 4, "places": 4, "hands": 2, "cache": 4, **more})
    house.create_space()
    house.map_plain(0, 0, 4, "rwx")
    return house


class KeysTest(unittest.TestCase):
    def test_a_page_without_a_stamp_has_no_key(self):
        house = small_house()
        self.assertEqual([house.read(0, 0, 4), house.read(0, 0, 4)], [[0] * 4] * 2)
        self.assertEqual((house.cached(0), house.walks()), ([], 4))
        house.write(0, 0, [1])
        self.assertEqual((house.cached(0), house.walks()), ([(0, 0, "w")], 5))
        house.write(0, 1, [1, 2, 3])
        self.assertEqual((house.cached(0), house.walks()), ([(0, 0, "w"), (0, 1, "w")], 6))

    def test_the_order_of_use(self):
        house = small_house(cache=3)
        house.write(0, 0, [1, 1, 2, 2, 3, 3])
        house.read(0, 0, 1)
        self.assertEqual(house.cached(0), [(0, 1, "w"), (0, 2, "w"), (0, 0, "r")])
        house.write(0, 2, [9])
        self.assertEqual(house.cached(0), [(0, 2, "w"), (0, 0, "r"), (0, 1, "w")])
        house.read(0, 4, 1, right="x")
        self.assertEqual(house.cached(0), [(0, 0, "r"), (0, 1, "w"), (0, 2, "x")])
        self.assertEqual((house.walks(), house.cached(1)), (5, []))

    def test_each_hand_has_a_cache(self):
        house = small_house()
        house.write(0, 0, [1], hand=1)
        house.read(0, 0, 1, hand=0)
        house.read(0, 0, 1, hand=1)
        self.assertEqual((house.cached(0), house.cached(1)), ([(0, 0, "r")], [(0, 0, "w"), (0, 0, "r")]))
        self.assertEqual((house.empty_cache(1), house.empty_cache(1), house.cached(0)), (2, 0, [(0, 0, "r")]))
        house.cached(0).clear()
        self.assertEqual(house.cached(0), [(0, 0, "r")])

    def test_no_capacity(self):
        house = small_house(cache=0)
        house.write(0, 0, [1, 2, 3])
        house.read(0, 0, 8)
        self.assertEqual((house.cached(0), house.walks()), ([], 6))

    def test_refused_access_does_nothing(self):
        house = small_house()
        house.write(0, 0, [1])
        house.protect(0, 2, 1, "w")
        before = (house.cached(0), house.walks(), house.in_frames())
        self.assertRaises(Denied, house.read, 0, 0, 6)
        house.check(0, 0, 4, right="r")
        house.growth(0, 0, 8)
        house.read(0, 0, 0)
        house.write(0, 8, [])
        house.walk(0, 0)
        self.assertEqual((house.cached(0), house.walks(), house.in_frames()), before)

    def test_files_use_no_cache(self):
        house = small_house()
        house.create_file("a", 2)
        house.write_file("a", 0, [1, 2, 3])
        house.read_file("a", 0, 4)
        self.assertEqual((house.cached(0), house.walks()), ([], 0))

    def test_a_read_with_the_right_to_write(self):
        house = small_house()
        house.write(0, 0, [1], hand=1)
        house.read(0, 0, 1, right="w")
        self.assertEqual(house.cached(0), [(0, 0, "w")])
        house.fork_space(0)
        self.assertEqual([house.read(0, 0, 1, right="w"), house.cached(0)], [[1], []])

    def test_fork_removes_the_keys_to_write(self):
        house = small_house()
        house.create_file("a", 1)
        house.map_shared(0, 3, 1, "rw", "a", 0)
        house.write(0, 0, [1, 1, 2, 2])
        house.write(0, 6, [3])
        house.read(0, 0, 2)
        house.fork_space(0)
        self.assertEqual(house.cached(0), [(0, 3, "w"), (0, 0, "r")])

    def test_copying_a_file_removes_the_keys_to_write_it(self):
        for copy in (lambda house: house.copy_file("a", "b"), lambda house: house.map_private(0, 1, 1, "r", "a", 0)):
            house = small_house()
            house.create_file("a", 1)
            house.map_shared(0, 3, 1, "rw", "a", 0)
            house.write(0, 0, [1])
            house.write(0, 6, [3])
            house.read(0, 6, 1)
            copy(house)
            self.assertEqual(house.cached(0), [(0, 0, "w"), (0, 3, "r")])

    def test_a_checkpoint_removes_all_keys_to_write(self):
        house = small_house()
        house.write(0, 0, [1, 1, 2])
        house.read(0, 0, 1, hand=1)
        number = house.checkpoint()
        self.assertEqual((house.cached(0), house.cached(1)), ([], [(0, 0, "r")]))
        house.read(0, 0, 1)
        house.forget(number)
        self.assertEqual((house.cached(0), house.cached(1)), ([(0, 0, "r")], [(0, 0, "r")]))

    def test_a_copying_write_removes_the_keys_of_its_slot(self):
        house = small_house(cache=9)
        house.create_file("a", 1)
        house.create_space()
        for space in (0, 1):
            house.map_shared(space, 3, 1, "rw", "a", 0)
        house.write(0, 0, [1, 1])
        house.write_file("a", 0, [7])
        house.copy_file("a", "b")
        house.fork_space(0)
        for space, page in ((0, 0), (2, 0), (0, 3), (1, 3), (2, 3)):
            house.read(space, 2 * page, 1)
            house.read(space, 2 * page, 1, hand=1)
        house.write(0, 0, [2], hand=1)
        self.assertEqual(house.cached(0), [(2, 0, "r"), (0, 3, "r"), (1, 3, "r"), (2, 3, "r")])
        self.assertEqual(house.cached(1), [(2, 0, "r"), (0, 3, "r"), (1, 3, "r"), (2, 3, "r"), (0, 0, "w")])
        house.write_file("a", 0, [8])
        self.assertEqual((house.cached(0), house.cached(1)), ([(2, 0, "r")], [(2, 0, "r"), (0, 0, "w")]))

    def test_a_renaming_write_keeps_the_keys(self):
        house = small_house()
        house.write(0, 0, [1])
        house.read(0, 0, 1)
        house.write(0, 0, [2], hand=1)
        self.assertEqual((house.cached(0), house.cached(1)), ([(0, 0, "w"), (0, 0, "r")], [(0, 0, "w")]))

    def test_protect_removes_the_keys_of_the_rights_that_are_gone(self):
        house = small_house()
        house.write(0, 0, [1, 1, 2])
        house.read(0, 0, 4)
        house.read(0, 0, 1, right="x")
        house.protect(0, 0, 1, "rx")
        self.assertEqual(house.cached(0), [(0, 1, "w"), (0, 0, "r"), (0, 1, "r"), (0, 0, "x")])
        house.protect(0, 0, 2, "")
        self.assertEqual(house.cached(0), [])

    def test_deeds_that_unmap(self):
        deeds = (
            lambda house: house.unmap(0, 1, 2), lambda house: house.map_plain(0, 1, 2, "rwx"),
            lambda house: house.map_shared(0, 1, 2, "rwx", "a", 0),
            lambda house: house.map_private(0, 1, 2, "rwx", "a", 0),
        )
        for deed in deeds:
            house = small_house(cache=9)
            house.create_file("a", 2)
            house.map_shared(0, 1, 1, "rw", "a", 0)
            house.write(0, 0, list(range(8)))
            house.read(0, 0, 8, hand=1)
            deed(house)
            self.assertEqual(house.cached(0), [(0, 0, "w"), (0, 3, "w")])
            self.assertEqual(house.cached(1), [(0, 0, "r"), (0, 3, "r")])

    def test_a_removed_space_and_its_number(self):
        house = small_house()
        child = house.fork_space(0)
        house.write(child, 0, [1])
        house.write(0, 0, [1])
        house.delete_space(child)
        self.assertEqual(house.cached(0), [(0, 0, "w")])
        self.assertEqual((house.create_space(), house.cached(0)), (child, [(0, 0, "w")]))

    def test_pages_that_the_file_loses(self):
        house = small_house()
        house.create_file("a", 3)
        house.map_shared(0, 0, 3, "rw", "a", 0)
        house.write(0, 0, [1, 1, 2, 2, 3, 3])
        house.resize_file("a", 1)
        self.assertEqual(house.cached(0), [(0, 0, "w")])
        house.resize_file("a", 3)
        self.assertEqual((house.cached(0), house.read(0, 2, 4)), ([(0, 0, "w")], [0] * 4))

    def test_putting_out_removes_the_keys_of_all_holders(self):
        house = small_house(cache=9)
        house.write(0, 0, [1, 1, 2])
        child = house.fork_space(0)
        for space in (0, child):
            house.read(space, 0, 3)
            house.read(space, 0, 3, hand=1)
        self.assertIs(house.put_out(1), True)
        self.assertEqual((house.cached(0), house.cached(1)), ([(0, 1, "r"), (1, 1, "r")],) * 2)
        self.assertEqual((house.in_frames(), house.in_places()), ([2], [1]))
        self.assertIs(house.bring_in(1), True)
        self.assertEqual(house.cached(0), [(0, 1, "r"), (1, 1, "r")])
        self.assertEqual((house.in_frames(), house.in_places()), ([1, 2], [1]))

    def test_a_copy_with_one_frame_puts_out_the_old_stamp(self):
        house = small_house(frames=1, places=4)
        house.write(0, 0, [1])
        child = house.fork_space(0)
        house.read(0, 0, 1)
        self.assertEqual(house.cached(0), [(0, 0, "r")])
        house.write(child, 0, [2])
        self.assertEqual((house.cached(0), house.in_frames(), house.in_places()), ([(child, 0, "w")], [2], [1]))


class FramesTest(unittest.TestCase):
    def test_put_out(self):
        house = small_house(frames=2, places=1)
        self.assertEqual([house.put_out(stamp) for stamp in (0, 1, 9)], [False] * 3)
        house.write(0, 0, [1, 1, 2])
        self.assertEqual([house.put_out(1), house.put_out(1), house.put_out(2)], [True, False, False])
        self.assertEqual((house.in_frames(), house.in_places()), ([2], [1]))
        # With stamp 1 in a frame, its place can be had for stamp 2.
        house.bring_in(1)
        self.assertIs(house.put_out(2), True)
        self.assertEqual((house.in_frames(), house.in_places()), ([1], [2]))

    def test_bring_in_of_what_is_not_live(self):
        house = small_house()
        house.write(0, 0, [1])
        self.assertEqual([house.bring_in(stamp) for stamp in (0, 1, 2)], [False, True, False])
        house.write(0, 0, [1])
        self.assertEqual([house.bring_in(stamp) for stamp in (0, 1, 2)], [False, False, True])

    def test_nothing_is_put_out_while_a_frame_is_empty(self):
        house = small_house()
        house.write(0, 0, [1, 1, 2, 2, 3, 3, 4, 4])
        self.assertEqual((house.in_frames(), house.in_places(), house.ledger()), ([1, 2, 3, 4], [], []))
        self.assertEqual(house.sweep(), [(place, 0, 0) for place in range(4)])

    def test_stamps_without_holders_are_gone(self):
        house = small_house(frames=1, places=6)
        house.write(0, 0, [1, 1, 2, 2, 3, 3])
        child = house.fork_space(0)
        house.write(child, 0, [4])
        house.unmap(0, 0, 2)
        self.assertEqual(sorted(house.in_frames() + house.in_places()), [2, 3, 4])
        house.delete_space(child)
        self.assertEqual(sorted(house.in_frames() + house.in_places()), [3])

    def test_the_ledger_of_a_house(self):
        for chooser in CHOOSERS:
            house = small_house(frames=1, places=4, chooser=chooser)
            rng = random.Random(4)
            for _ in range(60):
                house.write(0, rng.randrange(8), [rng.randrange(256)])
                self.assertEqual(len(house.read(0, 0, 8)), 8)
            rows, sweep = house.ledger(), house.sweep()
            self.assertGreater(len(rows), 60)
            self.assertEqual((bags_agree(4, rows, sweep), first_lie(4, rows, sweep)), (True, None))
            rows[5] = (rows[5][0], rows[5][1] + 1) + rows[5][2:]
            self.assertEqual(first_lie(4, rows, sweep), 5)
            self.assertNotEqual(house.ledger(), rows)

    def test_a_call_that_is_refused_changes_no_frames(self):
        house = House(widths=(4,), page_size=1, frames=1, places=4, blocks=6)
        house.create_file("a", 3)
        house.write_file("a", 0, [1, 2, 3])
        before = (house.in_frames(), house.in_places(), house.ledger())
        self.assertEqual(outcome(house.sync)[0], "raised")
        self.assertEqual(outcome(house.crash, stop=3)[0], "raised")
        self.assertEqual((house.in_frames(), house.in_places(), house.ledger()), before)


class HeldTest(unittest.TestCase):
    def test_held_and_let_go(self):
        house = small_house(frames=2, places=4)
        house.write(0, 0, [1, 1, 2, 2, 3, 3])
        self.assertEqual([house.held(stamp) for stamp in (0, 9, 1, 2)], [False, False, True, True])
        self.assertEqual((house.in_frames(), house.put_out(1)), ([1, 2], False))
        starved = ("raised", Starved, {"needed": 3, "limit": 2})
        for name, *args in (("held", 3), ("bring_in", 3), ("read", 0, 4, 1), ("write", 0, 6, [4])):
            self.assertEqual(outcome(getattr(house, name), *args), starved)
            self.assertEqual(house.in_frames(), [1, 2])
        house.check(0, 0, 8, right="w")
        self.assertEqual((house.growth(0, 0, 8), house.read(0, 0, 4)), (1, [1, 1, 2, 2]))
        house.let_go()
        self.assertEqual((house.read(0, 4, 2), house.in_frames(), house.put_out(2)), ([3, 3], [2, 3], True))

    def test_a_starved_write_leaves_its_page_as_it_is(self):
        house = small_house(frames=2, places=6)
        house.write(0, 0, [1, 1, 2, 2, 3, 3])
        child = house.fork_space(0)
        house.held(1)
        house.held(2)
        for address in (0, 4, 6):
            before = [house.stamps(), house.copies()] + [house.stamp_at(child, page) for page in range(4)]
            self.assertEqual(outcome(house.write, child, address, [9])[1], Starved)
            after = [house.stamps(), house.copies()] + [house.stamp_at(child, page) for page in range(4)]
            self.assertEqual(after, before)
        house.let_go()
        self.assertEqual(house.read(child, 0, 8), [1, 1, 2, 2, 3, 3, 0, 0])
        house.write(child, 4, [9])
        self.assertEqual((house.read(child, 4, 1), house.read(0, 4, 1), house.stamps()), ([9], [3], [1, 2, 3, 4]))

    def test_a_starved_attempt_goes_back(self):
        house = small_house(frames=1, places=6)
        house.write(0, 0, [1, 1, 2, 2])
        house.held(2)
        found = outcome(house.attempt, [("unmap", 0, 2, 2), ("write", 0, 0, [9])])
        self.assertEqual(found, ("raised", Starved, {"needed": 2, "limit": 1}))
        house.let_go()
        self.assertEqual((house.read(0, 0, 8), house.stamps()), ([1, 1, 2, 2, 0, 0, 0, 0], [1, 2]))

    def test_no_room_comes_before_starved(self):
        house = small_house(frames=1, places=2)
        house.write(0, 0, [1, 1, 2])
        house.held(1)
        self.assertEqual(outcome(house.write, 0, 4, [3]), ("raised", NoRoom, {"needed": 3, "limit": 2}))

    def test_a_pin_goes_on_under_the_new_stamp(self):
        house = small_house(frames=2, places=4)
        house.write(0, 0, [1, 1, 2, 2, 3])
        house.held(1)
        house.write(0, 0, [4])
        self.assertEqual((house.stamp_at(0, 0), house.put_out(4)), (4, False))
        house.read(0, 2, 6)
        self.assertIn(4, house.in_frames())


if __name__ == "__main__":
    unittest.main()
