"""Instructions: what one reads, writes and results in, given the registers before it."""

from lentpages.words import FORMS, WORD_LIMIT, names_registers


class Instruction:
    """An instruction that has begun: the bytes of data that it uses, and how far it has come with them."""

    def __init__(self, code, registers):
        self.word = FORMS[code[0]][0]
        # The number of the register that may get the result.
        self.target = code[1]
        self._number = code[2] + 256 * code[3]
        used = [field for letter, field in zip("abc", code[1:]) if letter in FORMS[code[0]][1]]
        self._values = [registers[field] for field in used]
        # The address and the number of the bytes of data.
        self.reads = self._bytes_read()
        self.writes = self._bytes_written()
        # The bytes that were read or are to be written, as far as they are known.
        self._data = []
        if self.word in ("store", "storew"):
            self._data = [self._values[1] % 256, self._values[1] // 256]
        self._written = 0

    def next_step(self):
        """What is to be done next: ("write", address, byte), ("read", address), or None if nothing is left."""
        if self._written < min(len(self._data), self.writes[1]):
            return ("write", self.writes[0] + self._written, self._data[self._written])
        if len(self._data) < self.reads[1]:
            return ("read", self.reads[0] + len(self._data))
        return None

    def note_read(self, byte):
        """Notes that the next byte was read."""
        self._data.append(byte)

    def note_written(self):
        """Notes that the next byte was written."""
        self._written += 1

    def result(self):
        """What the register gets, when all is read and written, or None. A fork gets its result from the house."""
        if self.word == "set":
            return self._number
        if self.word == "add":
            return (self._values[1] + self._values[2]) % WORD_LIMIT
        if self.word == "sub":
            return (self._values[1] - self._values[2]) % WORD_LIMIT
        if self.word == "load":
            return self._data[0]
        if self.word == "loadw":
            return self._data[0] + 256 * self._data[1]
        return None

    def position_after(self, position):
        """The position after the instruction, which is at this one."""
        if self.word == "halt":
            return position
        if self.word == "jump" and self._values[0] != 0:
            return self._number
        return position + 4

    def _bytes_read(self):
        """The address and the number of the bytes of data that are read."""
        if self.word == "load":
            return (self._values[1], 1)
        if self.word == "loadw":
            return (self._values[1], 2)
        if self.word == "move":
            return (self._values[1], self._values[2])
        return (0, 0)

    def _bytes_written(self):
        """The address and the number of the bytes that are written."""
        if self.word == "store":
            return (self._values[0], 1)
        if self.word == "storew":
            return (self._values[0], 2)
        if self.word == "move":
            return (self._values[0], self._values[2])
        return (0, 0)


def is_instruction(code):
    """Whether the four bytes are an instruction; what stands in fields that are not used does not matter."""
    return code[0] < len(FORMS) and names_registers(FORMS[code[0]][1], code[1:])
