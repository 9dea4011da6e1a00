"""The journal: states of files on a device, of which a power failure leaves the old one or the new one as a whole."""

from lentpages.errors import NoBlocks, NoStamp
from lentpages.states import State, first_state, newest_state, parts_of, plain_rows, stamps_of

ROOT_BLOCKS = 2


class Journal:
    """Keeps the current state of files on a device."""

    def __init__(self, device, shape):
        # The tables of a file come with the file, so the shape has nothing to add to them.
        self._device = device
        device.barrier()
        self._state = newest_state(device)
        if self._state is None:
            self._state = first_state()
            device.write(self._state.root_block(), self._state.root())
            device.barrier()

    def commit(self, files, contents, *, stop=None):
        """Writes the next state, or does only so many operations of this; returns the number of its new blocks."""
        self.check_blocks(files)
        new_parts = self._new_parts(files)
        following = self._following(files, contents, new_parts)
        # None stands for a barrier.
        operations = [(following.blocks[part], following.part_content(part)) for part in new_parts]
        operations.extend([None, (following.root_block(), following.root()), None])
        for operation in operations[:stop]:
            if operation is None:
                self._device.barrier()
            else:
                self._device.write(operation[0], operation[1])
        if stop is None:
            self._state = following
        return len(new_parts)

    def check_blocks(self, files):
        """Raises NoBlocks if the device has not enough blocks for the files as the next state."""
        needed = ROOT_BLOCKS + self.block_count() + len(self._new_parts(files))
        if needed > self._device.block_count():
            raise NoBlocks(needed, self._device.block_count())

    def new_stamps(self, files):
        """The stamps of the files that the current state does not have, in ascending order."""
        return [stamp for stamp in stamps_of(plain_rows(files)) if stamp not in self._state.contents]

    def state_number(self):
        """The number of the current state."""
        return self._state.number

    def files(self):
        """The files (name, size, tables, leaves) of the current state in ascending order."""
        return [(name, size, list(tables), list(leaves)) for name, size, tables, leaves in self._state.file_rows]

    def stamps(self):
        """The different stamps of the current state in ascending order."""
        return sorted(self._state.contents)

    def content(self, stamp):
        """The content of a stamp of the current state."""
        if stamp not in self._state.contents:
            raise NoStamp(stamp)
        return list(self._state.contents[stamp])

    def block_count(self):
        """How many blocks the current state occupies besides the root blocks."""
        return len(self._state.blocks)

    def _new_parts(self, files):
        """The parts that the files have as the next state and the current state does not have."""
        parts = parts_of(self._state.number + 1, plain_rows(files))
        return [part for part in parts if part not in self._state.blocks]

    def _following(self, files, contents, new_parts):
        """The next state, whose new parts get blocks that the current state does not occupy."""
        number = self._state.number + 1
        rows = plain_rows(files)
        blocks = {part: self._state.blocks.get(part) for part in parts_of(number, rows)}
        occupied = {block: True for block in self._state.blocks.values()}
        free = [block for block in range(ROOT_BLOCKS, self._device.block_count()) if block not in occupied]
        for part, block in zip(new_parts, free):
            blocks[part] = block
        kept = {stamp: self._content_for(stamp, contents) for stamp in stamps_of(rows)}
        return State(number, rows, blocks, kept)

    def _content_for(self, stamp, contents):
        """The content of a stamp in the next state: the current one, if there is one."""
        if stamp in self._state.contents:
            return self._state.contents[stamp]
        return tuple(contents[stamp])
