"""Scenes: the spaces and files that exist together, now or in a checkpoint."""

from lentpages.errors import BeyondFile, Denied, FileExists, NoCheckpoint, NoFile, NoSpace, Unmapped


class Space:
    """A space: the marks of its pages, a Regions object, and the book of its plain pages."""

    def __init__(self, marks, book):
        self.marks = marks
        self.book = book


class File:
    """A file: its size in pages, and the book of its pages."""

    def __init__(self, size, book):
        self.size = size
        self.book = book


class Scene:
    """Spaces by their numbers and files by their names."""

    def __init__(self):
        self._spaces = {}
        self._files = {}

    def find_space(self, number):
        """The space of that number."""
        if number not in self._spaces:
            raise NoSpace(number)
        return self._spaces[number]

    def find_file(self, name):
        """The file of that name."""
        if name not in self._files:
            raise NoFile(name)
        return self._files[name]

    def add_space(self, space):
        """Adds a space under the lowest free number, which is returned."""
        number = 0
        while number in self._spaces:
            number += 1
        self._spaces[number] = space
        return number

    def add_file(self, name, file):
        """Adds a file with a new name."""
        self._files[name] = file

    def remove_space(self, number):
        """Removes the space of that number."""
        del self._spaces[number]

    def remove_file(self, name):
        """Removes the file of that name."""
        del self._files[name]

    def check_new(self, name):
        """Raises FileExists if there is a file of that name."""
        if name in self._files:
            raise FileExists(name)

    def is_mapped(self, name):
        """Whether some page of a space is mapped to the file."""
        return any([region[3] == name for space in self._spaces.values() for region in space.marks])

    def space_numbers(self):
        """The numbers of the spaces in ascending order."""
        return sorted(self._spaces)

    def file_sizes(self):
        """The pairs (name, size) of the files in ascending order."""
        return [(name, self._files[name].size) for name in sorted(self._files)]

    def file_states(self, library):
        """The files as the journal keeps them: (name, size, tables, leaves), in ascending order."""
        states = []
        for name, size in self.file_sizes():
            book = self._files[name].book
            states.append((name, size, library.tables(book), library.leaves(book)))
        return states

    def books(self):
        """The books of all spaces and files."""
        return [owner.book for owner in list(self._spaces.values()) + list(self._files.values())]

    def slot_at(self, number, page, right):
        """The slot (book, page) of the page of a space that is to be used with the right; "" asks for none."""
        space = self.find_space(number)
        mark = space.marks.mark_at(page)
        if mark is None:
            raise Unmapped(page)
        rights, name, index = mark
        if right not in rights:
            raise Denied(page, right)
        if name == "":
            return (space.book, page)
        if index >= self.find_file(name).size:
            raise BeyondFile(name, index)
        return (self.find_file(name).book, index)

    def named_slots(self, slots):
        """The slots that are here, as (space, page) and behind them as (name, page), each in ascending order."""
        spaces = {self._spaces[number].book: number for number in self._spaces}
        files = {self._files[name].book: name for name in self._files}
        in_spaces = sorted([(spaces[book], page) for book, page in slots if book in spaces])
        return in_spaces + sorted([(files[book], page) for book, page in slots if book in files])

    def lent(self, slots):
        """A scene with the same marks and sizes, and with copies of all slots."""
        twin = Scene()
        for number in self.space_numbers():
            space = self._spaces[number]
            twin._spaces[number] = Space(space.marks.clone(), slots.lend(space.book))
        for name, size in self.file_sizes():
            twin.add_file(name, File(size, slots.lend(self._files[name].book)))
        return twin


class Checkpoints:
    """Scenes that were kept, under numbers that are never used twice."""

    def __init__(self):
        self._scenes = {}
        self._last = 0

    def keep(self, scene):
        """Keeps a scene and returns its number."""
        self._last += 1
        self._scenes[self._last] = scene
        return self._last

    def find_scene(self, number):
        """The scene that was kept under the number."""
        if number not in self._scenes:
            raise NoCheckpoint(number)
        return self._scenes[number]

    def lose(self, number):
        """Removes the scene of that number."""
        del self._scenes[number]

    def numbers(self):
        """The numbers of the scenes that are kept, in ascending order."""
        return sorted(self._scenes)
