"""Words: the instructions, each with its word and the operands that it uses, in the order of their codes."""

# In a form a letter stands for a register number in the field of that letter, and n for the fields b and c together.
FORMS = (
    ("halt", ""),
    ("set", "an"),
    ("add", "abc"),
    ("sub", "abc"),
    ("load", "ab"),
    ("store", "ab"),
    ("loadw", "ab"),
    ("storew", "ab"),
    ("move", "abc"),
    ("jump", "an"),
    ("fork", "a"),
)
REGISTERS = 8
# The contents of registers and the operands n are below this number.
WORD_LIMIT = 65536
CODE_LENGTH = 4


def names_registers(form, fields):
    """Whether the fields a, b and c name registers wherever the form says so."""
    return all([field < REGISTERS for letter, field in zip("abc", fields) if letter in form])
