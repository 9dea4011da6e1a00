"""Pieces: the parts of a stretch of bytes that lie in one page each."""


def pieces(address, length, page_size):
    """The parts (page, offset, length) of so many bytes from address on, in ascending order."""
    parts = []
    end = address + length
    while address < end:
        offset = address % page_size
        part = min(page_size - offset, end - address)
        parts.append((address // page_size, offset, part))
        address += part
    return parts
