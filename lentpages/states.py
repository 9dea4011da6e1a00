"""States of files: the parts that they consist of, and the blocks of a device that these occupy.

A part is ("table", level, first page, number), ("stamp", stamp) or, for the list of files, ("files", state number).
Two states have a part in common exactly if they share its block. The content of a block begins with the word of what
it holds: a part, or "root" for a root block.
"""


class State:
    """A state of files. A row is (name, size, tables, leaves); contents leads from stamps to tuples of bytes."""

    def __init__(self, number, file_rows, blocks, contents):
        self.number = number
        self.file_rows = file_rows
        # The block of each part.
        self.blocks = blocks
        self.contents = contents

    def root_block(self):
        """The root block of the state."""
        return self.number % 2

    def root(self):
        """The content of its root block, which leads to its list of files."""
        return ("root", self.number, self.blocks.get(("files", self.number)))

    def part_content(self, part):
        """The content of the block of one of its parts."""
        if part[0] == "stamp":
            return part + (self.contents[part[1]],)
        if part[0] == "files":
            # The list tells all tables and stamps and their blocks, so nothing has to be read out of the tables.
            return part + (tuple(self.file_rows), tuple(self.blocks.items()))
        return part


def first_state():
    """State 0, which has no files and occupies no block but its root."""
    return State(0, [], {}, {})


def plain_rows(files):
    """The rows of files in ascending order, with tuples instead of lists."""
    return [(name, size, tuple(tables), tuple(leaves)) for name, size, tables, leaves in sorted(files)]


def parts_of(number, rows):
    """The parts of the state of that number."""
    tables = sorted({table for row in rows for table in row[2]})
    parts = [("table",) + table for table in tables] + [("stamp", stamp) for stamp in stamps_of(rows)]
    return parts + [("files", number)]


def stamps_of(rows):
    """The different stamps of the files in ascending order."""
    return sorted({leaf[1] for row in rows for leaf in row[3]})


def newest_state(device):
    """The state with the higher number whose root can be read on the device, or None."""
    roots = [root for root in (device.read(0), device.read(1)) if root is not None and root[:1] == ("root",)]
    if not roots:
        return None
    newest = max(roots, key=lambda root: root[1])
    return first_state() if newest[1] == 0 else _read_state(device, newest)


def _read_state(device, root):
    """The state of the root, which is not state 0."""
    _, number, block = root
    _, _, rows, pairs = device.read(block)
    blocks = {part: at for part, at in pairs}
    contents = {part[1]: device.read(blocks[part])[2] for part in blocks if part[0] == "stamp"}
    return State(number, list(rows), blocks, contents)
