"""The machine: it runs the code in a space of a house."""

from lentpages.errors import BadRange, BeyondFile, Denied, NoRoom, Unmapped
from lentpages.instructions import Instruction, is_instruction
from lentpages.pieces import pieces
from lentpages.words import CODE_LENGTH, REGISTERS


class Machine:
    """Runs instructions byte by byte (mode "resume"), or each at once with all its pages in frames ("restart")."""

    def __init__(self, house, space, *, start=0, hand=0, mode="resume"):
        self._house = house
        self._space = space
        self._hand = hand
        self._mode = mode
        self._registers = [0] * REGISTERS
        self._position = start
        self._executed = 0
        self._outcome = None
        # The bytes of code that are read of the next instruction, and the instruction when all are.
        self._code = []
        self._instruction = None

    def tick(self):
        """Does a small step; tells whether an instruction ended or the machine is stopped."""
        if self._outcome is None and self._mode == "restart":
            self._work_at_once()
        elif self._outcome is None:
            self._work_on()
        return self._outcome is not None or not self._code

    def step(self):
        """Does one instruction, or what is left of one that has begun, and returns the outcome."""
        while not self.tick():
            pass
        return self._outcome

    def run(self, limit):
        """Goes on until so many instructions have ended or the machine has stopped, and returns the outcome."""
        for _ in range(limit):
            if self.step() is not None:
                break
        return self._outcome

    def outcome(self):
        """None while the machine can go on, otherwise why it has stopped."""
        return self._outcome

    def registers(self):
        """The contents of the registers."""
        return list(self._registers)

    def next_address(self):
        """The address of the next instruction."""
        return self._position

    def executed(self):
        """The number of instructions that have ended."""
        return self._executed

    def _work_on(self):
        """Reads or writes one byte for the next instruction, and ends it if this was the last one."""
        if self._instruction is None:
            self._fetch(1)
        else:
            self._use_byte()
        if self._instruction is not None and self._instruction.next_step() is None:
            self._end_instruction()

    def _work_at_once(self):
        """Does the next instruction with all its stamps in frames, if there are enough frames."""
        self._fetch(CODE_LENGTH)
        if self._instruction is None:
            return
        begun = self._instruction
        stamps = self._stamps_of([(self._position, CODE_LENGTH), begun.reads, begun.writes])
        needed = len(stamps) + self._house.growth(self._space, begun.writes[0], begun.writes[1])
        if needed > self._house.frames:
            self._outcome = ("starved", needed, self._house.frames)
            return
        for stamp in stamps:
            self._house.held(stamp)
        while begun.next_step() is not None:
            address = self._use_byte()
            # A write may have given the page a new stamp.
            self._house.held(self._house.stamp_at(self._space, address // self._house.page_size))
        self._end_instruction()
        self._house.let_go()

    def _fetch(self, count):
        """Reads so many bytes of the code of the next instruction, which begins or traps when all are read."""
        if not self._code:
            self._outcome = self._trap_for((self._position, CODE_LENGTH), "x")
        if self._outcome is None:
            address = self._position + len(self._code)
            self._code.extend(self._house.read(self._space, address, count, right="x", hand=self._hand))
            if len(self._code) == CODE_LENGTH:
                self._begin()

    def _begin(self):
        """Begins the instruction whose code is read, unless it traps."""
        if not is_instruction(self._code):
            self._outcome = ("trap", "code", self._position)
            return
        begun = Instruction(self._code, self._registers)
        self._outcome = self._trap_for(begun.reads, "r")
        if self._outcome is None:
            self._outcome = self._trap_for(begun.writes, "w")
        if self._outcome is None:
            self._instruction = begun

    def _use_byte(self):
        """Reads or writes the next byte of data and returns its address."""
        todo = self._instruction.next_step()
        address = todo[1]
        if todo[0] == "read":
            self._instruction.note_read(self._house.read(self._space, address, 1, hand=self._hand)[0])
        else:
            self._house.write(self._space, address, [todo[2]], hand=self._hand)
            self._instruction.note_written()
        return address

    def _end_instruction(self):
        """Ends the instruction: only now registers, position and the number of ended ones change."""
        ended = self._instruction
        result = self._house.fork_space(self._space) if ended.word == "fork" else ended.result()
        if result is not None:
            self._registers[ended.target] = result
        if ended.word == "halt":
            self._outcome = ("halt",)
        self._position = ended.position_after(self._position)
        self._executed += 1
        self._code = []
        self._instruction = None

    def _stamps_of(self, stretches):
        """The different stamps, without 0, of the pages of the bytes (address, length)."""
        stamps = []
        for address, length in stretches:
            for page, _, _ in pieces(address, length, self._house.page_size):
                stamps.append(self._house.stamp_at(self._space, page))
        return sorted({stamp for stamp in stamps if stamp != 0})

    def _trap_for(self, stretch, right):
        """The trap for the bytes (address, length) if they cannot be used with the right, otherwise None."""
        address, length = stretch
        try:
            self._house.check(self._space, address, length, right=right)
        except BadRange as outside:
            return ("trap", "range", outside.start)
        except Unmapped as unmapped:
            return ("trap", "unmapped", unmapped.page)
        except Denied as denied:
            return ("trap", "denied", denied.page)
        except BeyondFile as beyond:
            return ("trap", "beyond", beyond.index)
        except NoRoom as full:
            return ("trap", "room", full.needed)
        return None
