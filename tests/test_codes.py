"""Points 76 and 77: lines of instructions and their bytes."""

import random
import unittest

from lentpages.codes import assemble, disassemble
from lentpages.errors import BadCode, BadLine, CodeError
from tests.plain import outcome

# For each code its word and what its operands are.
WORDS = (
    ("halt", ""), ("set", "an"), ("add", "abc"), ("sub", "abc"), ("load", "ab"), ("store", "ab"), ("loadw", "ab"),
    ("storew", "ab"), ("move", "abc"), ("jump", "an"), ("fork", "a"),
)


def plain_line(code):
    """The line of four bytes, or None, by looking at each field."""
    if len(code) != 4 or code[0] > 10:
        return None
    word, operands = WORDS[code[0]]
    a, b, c = code[1:]
    if operands == "an":
        return f"{word} {a} {b + 256 * c}" if a < 8 else None
    used = len(operands)
    fields = [a, b, c]
    if any([field > 7 for field in fields[:used]]) or any(fields[used:]):
        return None
    return " ".join([word] + [str(field) for field in fields[:used]])


class AssembleTest(unittest.TestCase):
    def test_the_example_of_the_document(self):
        found = assemble(["set 1 300", "add 2 1 1", "halt"])
        self.assertEqual(found, [1, 1, 44, 1, 2, 2, 1, 1, 0, 0, 0, 0])

    def test_each_word(self):
        rows = {
            "halt": [0, 0, 0, 0], "set 7 65535": [1, 7, 255, 255], "set 0 0": [1, 0, 0, 0], "set 3 256": [1, 3, 0, 1],
            "set 3 255": [1, 3, 255, 0], "add 0 0 0": [2, 0, 0, 0], "add 7 6 5": [2, 7, 6, 5],
            "sub 7 7 7": [3, 7, 7, 7],
            "load 7 0": [4, 7, 0, 0], "store 0 7": [5, 0, 7, 0], "loadw 1 2": [6, 1, 2, 0], "storew 7 7": [7, 7, 7, 0],
            "move 1 2 3": [8, 1, 2, 3], "jump 7 0": [9, 7, 0, 0], "jump 0 65535": [9, 0, 255, 255],
            "fork 7": [10, 7, 0, 0],
        }
        for line, code in rows.items():
            self.assertEqual((assemble([line]), disassemble(code)), (code, [line]))
        self.assertEqual(assemble(list(rows)), [byte for code in rows.values() for byte in code])
        self.assertEqual(disassemble(assemble(list(rows))), list(rows))

    def test_nothing(self):
        self.assertEqual((assemble([]), disassemble([])), ([], []))

    def test_bad_lines(self):
        bad = (
            "", " ", "halt ", " halt", "halt 0", "HALT", "halts", "hal", "nop", "set", "set 1", "set 1 2 3", "set  1 2",
            "set 1  2", "set 1 2 ", " set 1 2", "set 8 0", "set 1 65536", "set 1 99999", "set 1 100000", "set 01 2",
            "set 1 02", "set 1 00", "set +1 2", "set 1 +2", "set -1 2", "set 1 -2", "set 1 -0", "set 1 2.0",
            "set 1 0x1",
            "set 1 1_0", "set a n", "set 1\t2", "set\t1 2", "set 1 2\n", "halt\n", "add 1 2", "add 1 2 8", "add 1 8 2",
            "add 8 1 2", "add 1 2 3 4", "sub 1 2", "load 1", "load 1 2 3", "load 1 8", "load 8 1", "store 1 2 0",
            "loadw 1", "storew 8 8", "move 1 2", "move 1 2 10", "jump 1", "jump 9 1", "jump 1 70000", "fork", "fork 8",
            "fork 1 0", "fork 00", "set 1 " + "9" * 5000, "set 1 " + "0" * 5000, "set 1 \u0663", "set 1 \u00b2",
            "1", "set,1,2", "set 1,2", "halt halt", "set 1 2 halt",
        )
        for line in bad:
            for number in (0, 3):
                found = outcome(assemble, ["halt"] * number + [line, "halt", "nop"])
                self.assertEqual(found, ("raised", BadLine, {"number": number}), line)
        self.assertTrue(issubclass(BadLine, CodeError))

    def test_the_operands_of_each_word(self):
        for word, operands in WORDS:
            line = " ".join([word] + ["1"] * len(operands))
            assemble([line])
            for wrong in (line + " 1", line[:-2] if operands else "", word + " 1" * 5):
                self.assertEqual(outcome(assemble, [line, wrong]), ("raised", BadLine, {"number": 1}))
            for at, letter in enumerate(operands):
                highest = 65535 if letter == "n" else 7
                for operand in (0, highest, highest + 1, -1):
                    text = ["0"] * len(operands)
                    text[at] = str(operand)
                    found = outcome(assemble, [" ".join([word] + text)])
                    self.assertEqual(found[0], "returned" if 0 <= operand <= highest else "raised")


class DisassembleTest(unittest.TestCase):
    def test_bad_codes(self):
        good = [2, 1, 2, 3]
        bad = (
            [11, 0, 0, 0], [255, 1, 1, 1], [0, 1, 0, 0], [0, 0, 1, 0], [0, 0, 0, 1], [1, 8, 0, 0], [2, 8, 0, 0],
            [2, 0, 8, 0], [2, 0, 0, 8], [3, 0, 0, 255], [4, 1, 1, 1], [4, 8, 1, 0], [5, 1, 8, 0], [6, 1, 1, 9],
            [7, 1, 1, 1],
            [8, 1, 1, 8], [9, 8, 1, 1], [10, 1, 1, 0], [10, 1, 0, 1], [10, 8, 0, 0], [0], [1, 1], [2, 1, 1],
        )
        for code in bad:
            for count in (0, 1, 5):
                found = outcome(disassemble, good * count + code)
                self.assertEqual(found, ("raised", BadCode, {"position": 4 * count}), code)
        self.assertTrue(issubclass(BadCode, CodeError))

    def test_the_first_of_several(self):
        data = [0] * 4 + [11] * 4 + [0] * 4 + [12, 0]
        self.assertEqual(outcome(disassemble, data), ("raised", BadCode, {"position": 4}))
        self.assertEqual(outcome(disassemble, [0] * 8 + [1]), ("raised", BadCode, {"position": 8}))

    def test_random_bytes(self):
        rng = random.Random(3)
        good = 0
        for _ in range(4000):
            code = [rng.randrange(12), rng.randrange(10), rng.choice((0, 1, 7, 8, 255)), rng.choice((0, 0, 3, 8, 255))]
            line = plain_line(code)
            if line is None:
                self.assertEqual(outcome(disassemble, code), ("raised", BadCode, {"position": 0}))
            else:
                good += 1
                self.assertEqual((disassemble(code), assemble([line])), ([line], code))
        self.assertGreater(good, 500)

    def test_what_is_passed_stays(self):
        lines, data = ["halt", "fork 3"], [0, 0, 0, 0, 10, 3, 0, 0]
        found = (assemble(lines), disassemble(data))
        self.assertEqual((found, lines, data), ((data, lines), ["halt", "fork 3"], [0, 0, 0, 0, 10, 3, 0, 0]))
        self.assertIsNot(found[0], data)


if __name__ == "__main__":
    unittest.main()
