"""Codes: lines of text with instructions, and the bytes of these."""

from lentpages.errors import BadCode, BadLine
from lentpages.words import CODE_LENGTH, FORMS, REGISTERS, WORD_LIMIT, names_registers

DIGITS = "0123456789"


def assemble(lines):
    """The bytes of the instructions of the lines."""
    data = []
    for number, line in enumerate(lines):
        code = _code_of(line)
        if code is None:
            raise BadLine(number)
        data.extend(code)
    return data


def disassemble(data):
    """The lines whose bytes are the data."""
    lines = []
    for position in range(0, len(data), CODE_LENGTH):
        line = _line_of(data[position:position + CODE_LENGTH])
        if line is None:
            raise BadCode(position)
        lines.append(line)
    return lines


def _code_of(line):
    """The four bytes of the line, or None if it is not an instruction."""
    words = line.split(" ")
    for code, (word, form) in enumerate(FORMS):
        if word == words[0] and len(words) == 1 + len(form):
            operands = [_operand(letter, text) for letter, text in zip(form, words[1:])]
            return None if None in operands else [code] + _fields(form, operands)
    return None


def _operand(letter, text):
    """The number that the text stands for, or None if it cannot be the operand of that letter."""
    limit = WORD_LIMIT if letter == "n" else REGISTERS
    if text == "" or len(text) > 5 or not all([sign in DIGITS for sign in text]):
        return None
    if text[0] == "0" and text != "0":
        return None
    return int(text) if int(text) < limit else None


def _fields(form, operands):
    """The fields a, b and c; those that are not used are 0."""
    fields = []
    for letter, operand in zip(form, operands):
        fields.extend([operand % 256, operand // 256] if letter == "n" else [operand])
    return fields + [0] * (3 - len(fields))


def _line_of(code):
    """The line whose bytes these are, or None."""
    if len(code) < CODE_LENGTH or code[0] >= len(FORMS):
        return None
    word, form = FORMS[code[0]]
    fields = code[1:]
    if not names_registers(form, fields):
        return None
    operands = [fields[0], fields[1] + 256 * fields[2]] if form == "an" else fields[:len(form)]
    if [code[0]] + _fields(form, operands) != code:
        return None
    return " ".join([word] + [str(operand) for operand in operands])
