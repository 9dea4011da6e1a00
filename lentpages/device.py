"""The device: blocks, whose last writes a power failure may lose."""

from lentpages.ranges import check_range


class Device:
    """Keeps the contents of blocks. A write is pending until the next barrier."""

    def __init__(self, blocks):
        self._permanent = [None] * blocks
        # The pending writes (block, content) in their order.
        self._writes = []

    def block_count(self):
        """The number of blocks."""
        return len(self._permanent)

    def write(self, block, content):
        """Writes to the block; the write is pending."""
        self._check_block(block)
        self._writes.append((block, content))

    def read(self, block):
        """What was last written to the block, pending writes included."""
        self._check_block(block)
        content = self._permanent[block]
        for written, newer in self._writes:
            if written == block:
                content = newer
        return content

    def barrier(self):
        """Makes all pending writes permanent."""
        self._end_writes([1] * len(self._writes))

    def pending(self):
        """The blocks of the pending writes, in the order of the writes."""
        return [block for block, _ in self._writes]

    def crash(self, fates):
        """A power failure. A pending write is lost with fate 0, permanent with 1, and leaves None with 2."""
        self._end_writes(fates)

    def _check_block(self, block):
        """Raises BadRange unless there is such a block."""
        check_range(block, block + 1, len(self._permanent))

    def _end_writes(self, fates):
        """Ends all pending writes, each with its fate; a missing fate is 0."""
        for at, (block, content) in enumerate(self._writes):
            fate = fates[at] if at < len(fates) else 0
            if fate == 1:
                self._permanent[block] = content
            elif fate == 2:
                self._permanent[block] = None
        self._writes = []
