"""Points 78 to 84: single instructions, traps in their order, ticks and frames."""

import unittest

from lentpages.codes import assemble
from lentpages.house import House
from lentpages.machine import Machine
from tests.plain import outcome

MODES = ("resume", "restart")


def machine_with(lines, *, mode="resume", start=0, code=None, **more):
    """A machine whose code stands from start on; the space has 32 pages of 4 bytes, all of them plain."""
    house = House(**{"widths": (8, 4), "page_size": 4, "frames": 20, "places": 20, "hands": 2, **more})
    space = house.create_space()
    house.map_plain(space, 0, 32, "rwx")
    house.write(space, start, assemble(lines) if code is None else code)
    return house, Machine(house, space, start=start, hand=1, mode=mode)


def state(machine):
    return (machine.outcome(), machine.registers(), machine.next_address(), machine.executed())


def fingerprint(house):
    """Stamps, bytes and spaces, as far as they can be told."""
    found = [house.stamps(), house.copies(), house.spaces(), house.files()]
    for space in house.spaces():
        for start, end, *_ in house.regions(space):
            for page in range(start, end):
                found.append(outcome(house.read, space, page * house.page_size, house.page_size))
    return found


class InstructionsTest(unittest.TestCase):
    def registers_after(self, lines, **more):
        """The registers after all lines, with the last one a halt, in both modes."""
        found = []
        for mode in MODES:
            house, machine = machine_with(lines + ["halt"], mode=mode, **more)
            self.assertEqual(machine.run(1000), ("halt",))
            found.append((machine.registers(), fingerprint(house), house))
        self.assertEqual(found[0][:2], found[1][:2])
        return found[0][0], found[0][2]

    def test_the_example_of_the_document(self):
        house = House(widths=(8,), page_size=4, frames=1, places=4)
        space = house.create_space()
        house.map_plain(space, 0, 4, "rwx")
        house.write(space, 0, assemble(["set 1 13", "store 1 1", "load 2 1", "halt"]))
        machine = Machine(house, space)
        self.assertEqual((machine.run(10), machine.registers()), (("halt",), [0, 13, 13, 0, 0, 0, 0, 0]))
        self.assertEqual(house.read(space, 12, 2), [0, 13])

    def test_sums(self):
        for first, second in ((0, 0), (1, 2), (2, 1), (65535, 1), (65535, 65535), (0, 65535), (300, 40000)):
            lines = [f"set 1 {first}", f"set 7 {second}", "add 2 1 7", "sub 3 1 7", "add 1 1 1"]
            registers, _ = self.registers_after(lines)
            self.assertEqual(registers[2:4], [(first + second) % 65536, (first - second) % 65536])
            self.assertEqual(registers[1], 2 * first % 65536)

    def test_loads_and_stores(self):
        lines = ["set 1 50", "set 2 43981", "storew 1 2", "load 3 1", "set 4 51", "load 5 4", "loadw 6 1"]
        lines += ["store 4 1", "loadw 7 1"]
        registers, house = self.registers_after(lines)
        self.assertEqual(registers[2:], [43981, 205, 51, 171, 43981, 205 + 256 * 50])
        self.assertEqual(house.read(0, 49, 4), [0, 205, 50, 0])
        registers, house = self.registers_after(["set 1 60", "set 2 65535", "store 1 2", "loadw 1 1"])
        self.assertEqual((registers[1], house.read(0, 60, 2)), (255, [255, 0]))

    def test_words_over_two_pages(self):
        registers, house = self.registers_after(["set 1 63", "set 2 513", "storew 1 2", "loadw 3 1"])
        self.assertEqual((registers[3], house.read(0, 63, 2)), (513, [1, 2]))
        self.assertEqual(house.stamp_at(0, 16), house.stamp_at(0, 15) + 1)

    def test_moves(self):
        rows = ((70, 60, 5), (62, 60, 5), (58, 60, 5), (60, 60, 5), (61, 60, 9), (60, 0, 30), (70, 60, 0))
        for target, source, length in rows:
            lines = [f"set 1 {target}", f"set 2 {source}", f"set 3 {length}", "move 1 2 3"]
            house, machine = machine_with(lines + ["halt"])
            house.write(0, 58, list(range(100, 116)))
            wanted = house.read(0, 0, 128)
            for at in range(length):
                wanted[target + at] = wanted[source + at]
            self.assertEqual((machine.run(9), house.read(0, 0, 128)), (("halt",), wanted))

    def test_jumps(self):
        # Register 1 counts down from 3, register 2 counts the rounds.
        lines = ["set 1 3", "set 3 1", "add 2 2 3", "sub 1 1 3", "jump 1 8"]
        self.assertEqual(self.registers_after(lines)[0], [0, 0, 3, 1, 0, 0, 0, 0])
        _, machine = machine_with(["jump 0 40", "set 1 1", "jump 1 65535"])
        self.assertIsNone(machine.run(3))
        self.assertEqual((machine.next_address(), machine.executed()), (65535, 3))
        self.assertEqual(machine.step(), ("trap", "range", 65535))

    def test_forks(self):
        registers, house = self.registers_after(["set 1 7", "fork 1", "fork 2", "set 3 60", "store 3 2"])
        self.assertEqual((registers[1:4], house.spaces()), ([1, 2, 60], [0, 1, 2]))
        self.assertEqual([house.read(space, 60, 1) for space in range(3)], [[2], [0], [0]])
        for mode in MODES:
            house, machine = machine_with(["fork 3"], mode=mode)
            house.create_space()
            house.create_space()
            house.delete_space(1)
            machine.step()
            self.assertEqual((machine.registers()[3], house.spaces()), (1, [0, 1, 2]))

    def test_halt(self):
        for mode in MODES:
            _, machine = machine_with(["set 1 5", "halt", "set 1 6"], mode=mode)
            self.assertEqual(state(machine), (None, [0] * 8, 0, 0))
            self.assertEqual((machine.step(), state(machine)), (None, (None, [0, 5] + [0] * 6, 4, 1)))
            for _ in range(3):
                self.assertEqual((machine.step(), machine.run(9), machine.tick()), (("halt",), ("halt",), True))
                self.assertEqual(state(machine), (("halt",), [0, 5] + [0] * 6, 4, 2))

    def test_fields_that_are_not_used(self):
        for code in ([0, 9, 9, 9], [10, 1, 99, 99], [4, 1, 2, 200], [5, 1, 2, 8], [6, 1, 1, 8], [7, 2, 2, 255]):
            for mode in MODES:
                _, machine = machine_with([], code=code, mode=mode)
                self.assertIn(machine.step(), (None, ("halt",)))
                self.assertEqual(machine.executed(), 1)

    def test_code_that_writes_over_itself(self):
        # The store puts the byte 0 over the code of the next line, which is then a halt.
        for mode in MODES:
            house, machine = machine_with(["set 1 8", "store 1 0", "set 2 9", "halt"], mode=mode)
            self.assertEqual(machine.run(9), ("halt",))
            self.assertEqual((machine.registers(), machine.next_address()), ([0, 8, 0, 0, 0, 0, 0, 0], 8))
            # An instruction that writes over its own code is done as it was read.
            house, machine = machine_with(["set 1 4", "storew 1 1", "halt"], mode=mode)
            self.assertEqual((machine.run(2), machine.next_address(), house.read(0, 4, 2)), (None, 8, [4, 0]))

    def test_code_in_a_shared_file(self):
        for mode in MODES:
            house = House(widths=(8,), page_size=4, frames=9)
            space, other = house.create_space(), house.create_space()
            house.create_file("code", 3)
            house.write_file("code", 2, assemble(["set 1 10", "halt"]))
            house.map_shared(space, 1, 3, "x", "code", 0)
            house.map_shared(other, 0, 3, "w", "code", 0)
            machine = Machine(house, space, start=6, mode=mode)
            self.assertEqual((machine.step(), machine.registers()[1]), (None, 10))
            house.write(other, 6, assemble(["fork 2"]))
            self.assertEqual((machine.step(), machine.registers()[2]), (None, 2))

    def test_each_byte_has_a_stamp(self):
        for mode in MODES:
            house, machine = machine_with(["set 1 62", "set 2 50", "set 3 5", "move 1 2 3", "storew 2 1"], mode=mode)
            last = house.stamp_at(0, 4)
            machine.run(4)
            # Two bytes in page 15, three in page 16.
            self.assertEqual([house.stamp_at(0, 15), house.stamp_at(0, 16)], [last + 2, last + 5])
            machine.step()
            self.assertEqual((house.stamp_at(0, 12), house.tell_apart(0, 12, 0, 15)), (last + 7, (last + 7, 3)))


class TrapsTest(unittest.TestCase):
    def check_trap(self, house, machine, trap):
        """The next instruction traps, and nothing has changed."""
        before, registers = fingerprint(house), state(machine)[1:]
        self.assertEqual(machine.step(), trap)
        for _ in range(3):
            self.assertEqual((machine.tick(), machine.step(), machine.run(5)), (True, trap, trap))
        self.assertEqual((fingerprint(house), state(machine)), (before, (trap,) + registers))

    def check_traps(self, lines, prepare, trap, **more):
        """The last of the lines traps."""
        for mode in MODES:
            house, machine = machine_with(lines, mode=mode, **more)
            prepare(house)
            self.assertIsNone(machine.run(len(lines) - 1))
            self.check_trap(house, machine, trap)

    def test_code_that_cannot_be_read(self):
        for mode in MODES:
            for start in (125, 128, 500):
                house, _ = machine_with([], code=[0])
                self.check_trap(house, Machine(house, 0, start=start, mode=mode), ("trap", "range", start))
            house, _ = machine_with([], code=[0] * 16)
            house.protect(0, 1, 1, "rw")
            house.unmap(0, 3, 1)
            house.create_file("a", 1)
            house.map_shared(0, 5, 1, "x", "a", 0)
            house.resize_file("a", 0)
            for start, trap in ((1, ("denied", 1)), (4, ("denied", 1)), (9, ("unmapped", 3)), (17, ("beyond", 0))):
                self.check_trap(house, Machine(house, 0, start=start, mode=mode), ("trap",) + trap)

    def test_codes(self):
        bad = ([11, 0, 0, 0], [255] * 4, [1, 8, 0, 0], [2, 8, 0, 0], [2, 0, 8, 0], [2, 0, 0, 8], [3, 1, 1, 255])
        bad += ([4, 8, 0, 0], [4, 0, 8, 0], [5, 0, 9, 0], [6, 8, 0, 0], [7, 0, 8, 0], [8, 0, 0, 8], [9, 8, 0, 0])
        for code in bad + ([10, 8, 0, 0],):
            for mode in MODES:
                house, machine = machine_with([], code=code, start=8, mode=mode)
                self.check_trap(house, machine, ("trap", "code", 8))

    def test_code_comes_before_data(self):
        # The registers are 0, and page 0 cannot be read or written.
        for code in ([4, 8, 0, 0], [5, 0, 8, 0], [8, 0, 0, 8]):
            house, machine = machine_with([], code=code, start=8)
            house.protect(0, 0, 1, "")
            self.check_trap(house, machine, ("trap", "code", 8))

    def test_reads(self):
        for last, k in (("load 2 1", 1), ("loadw 2 1", 2), ("move 3 1 4", 2)):
            rows = ((60, ("denied", 15)), (80, ("unmapped", 20)), (100, ("beyond", 0)), (200, ("range", 200)))
            for address, trap in rows:
                self.check_traps([f"set 1 {address}", "set 4 2", last], self.spoil, ("trap",) + trap)
            if k == 2:
                self.check_traps(["set 1 59", "set 4 2", last], self.spoil, ("trap", "denied", 15))
                self.check_traps(["set 1 127", "set 4 2", last], self.spoil, ("trap", "range", 127))

    def spoil(self, house):
        """Pages 15, 20, 25 cannot be read or written for three reasons, page 16 cannot be written, page 17 not read."""
        house.protect(0, 15, 1, "x")
        house.protect(0, 16, 1, "r")
        house.protect(0, 17, 1, "w")
        house.unmap(0, 20, 1)
        house.create_file("a", 1)
        house.map_shared(0, 25, 1, "rw", "a", 0)
        house.resize_file("a", 0)

    def test_writes(self):
        for last, k in (("store 1 2", 1), ("storew 1 2", 2), ("move 1 5 4", 2)):
            rows = ((64, ("denied", 16)), (80, ("unmapped", 20)), (100, ("beyond", 0)), (200, ("range", 200)))
            for address, trap in rows:
                self.check_traps([f"set 1 {address}", "set 4 2", "set 5 40", last], self.spoil, ("trap",) + trap)
            if k == 2:
                self.check_traps(["set 1 79", "set 4 2", last], self.spoil, ("trap", "unmapped", 20))
                self.check_traps(["set 1 127", "set 4 2", last], self.spoil, ("trap", "range", 127))

    def test_a_move_reads_before_it_writes(self):
        rows = (
            (68, 64, 4, ("denied", 17)), (80, 64, 4, ("unmapped", 20)), (64, 64, 4, ("denied", 16)),
            (80, 300, 1, ("unmapped", 20)),
        )
        for source, target, length, trap in rows:
            lines = [f"set 1 {target}", f"set 2 {source}", f"set 3 {length}", "move 1 2 3"]
            self.check_traps(lines, self.spoil, ("trap",) + trap)
        # The right to read is not needed where bytes are written only.
        house, machine = machine_with(["set 1 68", "set 3 4", "move 1 0 3", "halt"])
        self.spoil(house)
        self.assertEqual(machine.run(9), ("halt",))

    def test_a_move_of_no_bytes(self):
        self.check_traps(["set 1 129", "move 0 1 7"], self.spoil, ("trap", "range", 129))
        self.check_traps(["set 1 129", "move 1 0 7"], self.spoil, ("trap", "range", 129))
        self.check_traps(["set 1 129", "set 2 130", "move 2 1 7"], self.spoil, ("trap", "range", 129))
        for address in (60, 64, 80, 100, 128):
            house, machine = machine_with([f"set 1 {address}", "move 1 1 7", "halt"])
            self.spoil(house)
            self.assertEqual(machine.run(9), ("halt",))

    def test_room(self):
        # The code has four pages, so there is room for one more stamp.
        for mode in MODES:
            for line, trap in (("store 1 2", None), ("storew 1 2", 6), ("move 1 0 3", 7)):
                lines = ["set 1 63", "set 3 9", line, "halt"]
                house, machine = machine_with(lines, mode=mode, frames=5, places=0)
                machine.run(2)
                if trap:
                    self.check_trap(house, machine, ("trap", "room", trap))
                else:
                    self.assertIsNone(machine.step())
                    self.assertEqual(len(house.stamps()), 5)

    def test_rights_come_before_room(self):
        self.check_traps(["set 1 63", "storew 1 2"], self.spoil, ("trap", "denied", 15), frames=2, places=0)
        house, machine = machine_with(["set 1 67", "storew 1 2"], frames=2, places=0)
        machine.step()
        self.check_trap(house, machine, ("trap", "room", 4))

    def test_room_of_shared_pages(self):
        # There are four pages of code and one of data. After the fork each write to one of them copies.
        for mode in MODES:
            for frames in (6, 7):
                lines = ["set 1 15", "fork 2", "storew 1 2", "halt"]
                house, machine = machine_with(lines, mode=mode, frames=frames, places=0)
                house.write(0, 16, [1])
                self.assertIsNone(machine.run(2))
                if frames == 6:
                    self.check_trap(house, machine, ("trap", "room", 7))
                else:
                    self.assertIsNone(machine.step())
                    self.assertEqual((len(house.stamps()), house.copies()), (7, 2))


class TicksTest(unittest.TestCase):
    def ticks(self, machine):
        """The number of ticks until an instruction has ended."""
        count = 1
        while not machine.tick():
            count += 1
            self.assertLess(count, 1000)
        return count

    def test_the_number_of_ticks(self):
        lines = ["set 1 60", "set 2 20", "load 3 1", "store 1 3", "loadw 3 1", "storew 1 3", "move 1 0 2"]
        lines += ["move 1 0 7", "fork 4", "halt"]
        data = [0, 0, 1, 1, 2, 2, 40, 0, 0, 0]
        house, machine = machine_with(lines)
        for k in data:
            executed = machine.executed()
            self.assertLessEqual(self.ticks(machine), 2 * k + 10)
            self.assertEqual(machine.executed(), executed + 1)
        for mode, line, k in (("resume", "move 0 1 2", 0), ("restart", "move 0 0 1", 0)):
            _, machine = machine_with([line], mode=mode)
            self.assertLessEqual(self.ticks(machine), 10 + k)
        for mode in MODES:
            _, machine = machine_with([], code=[11, 0, 0, 0], mode=mode)
            self.assertLessEqual(self.ticks(machine), 10)

    def test_restart_does_an_instruction_in_a_tick(self):
        _, machine = machine_with(["set 1 60", "set 2 20", "move 1 0 2", "halt"], mode="restart")
        self.assertEqual([self.ticks(machine) for _ in range(6)], [1] * 6)
        self.assertEqual((machine.outcome(), machine.executed()), (("halt",), 4))

    def test_nothing_shows_before_the_end(self):
        _, machine = machine_with(["set 1 60", "add 1 1 1", "halt"])
        while not machine.tick():
            self.assertEqual(state(machine), (None, [0] * 8, 0, 0))
        self.assertEqual(state(machine), (None, [0, 60] + [0] * 6, 4, 1))

    def test_step_ends_what_ticks_have_begun(self):
        _, machine = machine_with(["set 1 60", "set 2 61", "set 3 62", "halt"])
        self.assertIs(machine.tick(), False)
        self.assertIsNone(machine.step())
        self.assertEqual((machine.registers()[:4], machine.executed()), ([0, 60, 0, 0], 1))
        self.assertIs(machine.tick(), False)
        self.assertIsNone(machine.run(2))
        self.assertEqual((machine.registers()[:4], machine.executed()), ([0, 60, 61, 62], 3))

    def test_run_zero(self):
        _, machine = machine_with(["set 1 60", "halt"])
        self.assertIsNone(machine.run(0))
        machine.tick()
        self.assertIsNone(machine.run(0))
        self.assertEqual((machine.executed(), machine.run(10 ** 9), machine.executed()), (0, ("halt",), 2))
        self.assertEqual((machine.run(0), machine.run(10 ** 9)), (("halt",), ("halt",)))

    def test_everything_is_put_out_between_ticks(self):
        lines = ["set 1 62", "set 2 3", "set 3 9", "fork 4", "move 1 2 3", "loadw 5 1", "storew 2 5", "halt"]
        wanted_house, wanted = machine_with(lines)
        wanted.run(99)
        house, machine = machine_with(lines, frames=1, places=80)
        while machine.outcome() is None:
            machine.tick()
            for stamp in house.stamps():
                house.put_out(stamp)
            house.empty_cache(1)
            house.read(1, 0, 4) if 1 in house.spaces() else house.bring_in(house.stamps()[-1])
        self.assertEqual((state(machine), fingerprint(house)), (state(wanted), fingerprint(wanted_house)))
        self.assertEqual(state(machine)[0], ("halt",))

    def test_only_its_own_hand_gets_keys(self):
        for mode in MODES:
            house, machine = machine_with(["set 1 60", "storew 1 1", "move 1 0 1", "halt"], mode=mode)
            house.empty_cache(0)
            machine.run(2)
            self.assertEqual(house.cached(0), [])
            self.assertNotEqual(house.cached(1), [])


class FramesTest(unittest.TestCase):
    def test_needed(self):
        # For each line its code page and the pages that it reads or writes; pages 15 and 16 have no stamps at first.
        rows = (
            ("halt", 1), ("load 2 1", 1), ("loadw 2 1", 1), ("store 1 2", 2), ("storew 1 2", 3), ("move 1 0 3", 4),
            ("move 0 1 3", 2), ("move 1 1 3", 3), ("add 1 1 1", 1),
        )
        for line, needed in rows:
            for frames in (1, 2, 3, 4):
                house, machine = machine_with(["set 1 63", "set 3 4", line], mode="restart", frames=frames, places=30)
                self.assertIsNone(machine.run(2))
                before = fingerprint(house)
                found = machine.step()
                if needed <= frames:
                    self.assertEqual((found, machine.executed()), (("halt",) if line == "halt" else None, 3))
                else:
                    self.assertEqual(found, ("starved", needed, frames))
                    self.assertEqual(fingerprint(house), before)
                    self.assertEqual(state(machine), (found, [0, 63, 0, 4, 0, 0, 0, 0], 8, 2))
                    self.assertEqual((machine.step(), machine.run(5), machine.tick()), (found, found, True))

    def test_code_over_two_pages(self):
        for frames, found in ((1, ("starved", 2, 1)), (2, ("halt",))):
            _, machine = machine_with(["halt"], start=6, mode="restart", frames=frames, places=9)
            self.assertEqual(machine.step(), found)

    def test_stamps_that_are_equal_count_once(self):
        # After the fork the two pages of data have stamps with other holders, so each write needs one more.
        house, machine = machine_with(["set 1 62", "fork 2", "storew 1 1", "halt"], mode="restart", frames=4, places=30)
        house.write(0, 60, [1])
        machine.run(2)
        self.assertEqual((machine.step(), len(house.stamps())), (None, 6))
        # Two pages with one stamp: the code page, this stamp, and a copy for the first page that is written.
        house, machine = machine_with(["set 1 63", "storew 1 1"], mode="restart", frames=3, places=30)
        house.create_file("a", 1)
        house.write_file("a", 0, [5])
        house.map_private(0, 15, 1, "rw", "a", 0)
        house.map_private(0, 16, 1, "rw", "a", 0)
        house.delete_file("a")
        machine.step()
        self.assertEqual((machine.step(), house.read(0, 60, 6)), (None, [5, 0, 0, 63, 0, 0]))

    def test_a_trap_comes_before_starving(self):
        house, machine = machine_with(["set 1 63", "storew 1 1"], mode="restart", frames=1, places=2)
        machine.step()
        self.assertEqual(machine.step(), ("trap", "room", 4))
        house, machine = machine_with(["set 1 63", "storew 1 1"], mode="restart", frames=1, places=30)
        house.protect(0, 16, 1, "r")
        machine.step()
        self.assertEqual(machine.step(), ("trap", "denied", 16))

    def before_a_move(self, frames, chooser):
        """A machine that is about to move six bytes after a fork, with all stamps put out."""
        lines = ["set 1 63", "set 2 40", "set 3 6", "fork 4", "move 1 2 3"]
        house, machine = machine_with(lines, mode="restart", frames=frames, places=30, chooser=chooser)
        house.write(0, 40, [1] * 8)
        house.write(0, 60, [1] * 8)
        machine.run(4)
        for stamp in house.stamps():
            house.put_out(stamp)
        return house, machine

    def test_its_stamps_are_in_frames_and_not_pinned(self):
        for chooser in ("lru", "fifo", "newest", "clock"):
            # The code page, two pages that are read, and three that are written, two of them copied and one begun.
            house, machine = self.before_a_move(7, chooser)
            self.assertEqual((house.growth(0, 63, 6), machine.step()), (3, ("starved", 8, 7)))
            house, machine = self.before_a_move(8, chooser)
            self.assertIsNone(machine.step())
            stamps = {house.stamp_at(0, page) for page in (4, 10, 11, 15, 16, 17)}
            self.assertLessEqual(stamps, set(house.in_frames()))
            self.assertEqual([house.put_out(stamp) for stamp in sorted(stamps)], [True] * 6)

    def test_new_stamps_stay_in_frames(self):
        # All frames are filled with other stamps, so the first page that is written could be put out for the second.
        for chooser in ("lru", "fifo", "newest", "clock"):
            for shared in (False, True):
                lines = ["set 1 103", "set 2 7", "fork 3", "storew 1 2"]
                house, machine = machine_with(lines, mode="restart", frames=5, places=60, chooser=chooser)
                if shared:
                    house.write(0, 100, [1] * 8)
                machine.run(3)
                house.write(0, 40, [1] * 32)
                house.bring_in(house.stamp_at(0, 3))
                for page in range(10, 18):
                    house.bring_in(house.stamp_at(0, page))
                self.assertEqual((len(house.in_frames()), machine.step()), (5, None))
                stamps = {house.stamp_at(0, page) for page in (3, 25, 26)}
                self.assertLessEqual(stamps, set(house.in_frames()))

    def test_one_frame_is_enough_to_resume(self):
        lines = ["set 1 63", "set 3 6", "fork 4", "move 1 0 3", "halt"]
        house, machine = machine_with(lines, start=2, frames=1, places=30)
        self.assertEqual((machine.run(9), house.read(0, 63, 6)), (("halt",), house.read(0, 0, 6)))


if __name__ == "__main__":
    unittest.main()
