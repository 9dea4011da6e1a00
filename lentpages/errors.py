"""The errors of the program. Each one keeps its arguments as attributes."""


class PagesError(ValueError):
    """The base class of all errors that the program raises."""


class AccessError(PagesError):
    """Pages or bytes cannot be used as asked."""


class LimitError(PagesError):
    """There is not enough room for what was asked."""


class MissingError(PagesError):
    """There is nothing with this number or name."""


class FileError(PagesError):
    """A file stands in the way of what was asked."""


class CodeError(PagesError):
    """A line or an instruction is not of the required form."""


class BadRange(AccessError):
    """The range (start, end) is empty, reversed or outside."""

    def __init__(self, start, end):
        super().__init__(f"the range ({start}, {end}) is empty, reversed or outside")
        self.start = start
        self.end = end


class Unmapped(AccessError):
    """The page has no mark."""

    def __init__(self, page):
        super().__init__(f"page {page} is unmapped")
        self.page = page


class Denied(AccessError):
    """The rights of the page do not contain the right."""

    def __init__(self, page, right):
        super().__init__(f"page {page} does not have the right {right}")
        self.page = page
        self.right = right


class BeyondFile(AccessError):
    """The file does not have the page with this index."""

    def __init__(self, name, index):
        super().__init__(f"file {name} has no page {index}")
        self.name = name
        self.index = index


class NoHole(LimitError):
    """There is no hole of this length."""

    def __init__(self, length):
        super().__init__(f"there is no hole of length {length}")
        self.length = length


class NoRoom(LimitError):
    """More stamps are needed than can be kept."""

    def __init__(self, needed, limit):
        super().__init__(f"{needed} stamps are needed, {limit} can be kept")
        self.needed = needed
        self.limit = limit


class NoBlocks(LimitError):
    """More blocks are needed than the device has."""

    def __init__(self, needed, limit):
        super().__init__(f"{needed} blocks are needed, the device has {limit}")
        self.needed = needed
        self.limit = limit


class Starved(LimitError):
    """More frames are needed at once than there are."""

    def __init__(self, needed, limit):
        super().__init__(f"{needed} frames are needed at once, there are {limit}")
        self.needed = needed
        self.limit = limit


class NoBook(MissingError):
    """There is no such book."""

    def __init__(self, book):
        super().__init__(f"there is no book {book}")
        self.book = book


class NoStamp(MissingError):
    """There is no such stamp."""

    def __init__(self, stamp):
        super().__init__(f"there is no stamp {stamp}")
        self.stamp = stamp


class NoSpace(MissingError):
    """There is no such space."""

    def __init__(self, space):
        super().__init__(f"there is no space {space}")
        self.space = space


class NoFile(MissingError):
    """There is no file of this name."""

    def __init__(self, name):
        super().__init__(f"there is no file {name}")
        self.name = name


class NoCheckpoint(MissingError):
    """There is no checkpoint with this number."""

    def __init__(self, number):
        super().__init__(f"there is no checkpoint {number}")
        self.number = number


class FileExists(FileError):
    """There is a file of this name already."""

    def __init__(self, name):
        super().__init__(f"file {name} exists already")
        self.name = name


class FileInUse(FileError):
    """Some page of a space is mapped to the file."""

    def __init__(self, name):
        super().__init__(f"file {name} is mapped by a space")
        self.name = name


class BadLine(CodeError):
    """The line at this position is not an instruction."""

    def __init__(self, number):
        super().__init__(f"line {number} is not an instruction")
        self.number = number


class BadCode(CodeError):
    """The bytes at this position are not an instruction."""

    def __init__(self, position):
        super().__init__(f"the bytes at position {position} are not an instruction")
        self.position = position
