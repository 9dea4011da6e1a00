"""The house: spaces and files in one memory with lent pages, paging, caches, checkpoints and a journal."""

from lentpages.device import Device
from lentpages.errors import BeyondFile, FileInUse, PagesError
from lentpages.folding import FoldedTable
from lentpages.holes import find_hole
from lentpages.journal import Journal
from lentpages.library import Library
from lentpages.pager import Pager
from lentpages.pieces import pieces
from lentpages.ranges import check_range, check_stretch
from lentpages.regions import Regions
from lentpages.scenes import Checkpoints, File, Scene, Space
from lentpages.shapes import Shape
from lentpages.slots import Slots
from lentpages.translations import Translations


class House:
    """Joins books, a pager, the caches of hands and a journal into one memory of spaces and files."""

    def __init__(self, *, widths=(4, 4), page_size=4, frames=8, places=8, blocks=200, hands=1, cache=8, chooser="lru"):
        self._shape = Shape(widths)
        self.page_size = page_size
        self.page_count = self._shape.page_count
        self.frames = frames
        self.hands = hands
        self._places = places
        self._chooser = chooser
        self._library = Library(self._shape)
        self._translations = Translations(hands, cache)
        self._slots = Slots(self._library, self._new_pager(), self._translations)
        self._scene = Scene()
        self._checkpoints = Checkpoints()
        self._device = Device(blocks)
        self._journal = Journal(self._device, self._shape)

    def create_space(self):
        """Makes a space without mapped pages and returns its number."""
        return self._scene.add_space(Space(Regions(self.page_count), self._library.create()))

    def fork_space(self, space):
        """Makes a space with the same marks and with copies of all slots, and returns its number."""
        parent = self._scene.find_space(space)
        return self._scene.add_space(Space(parent.marks.clone(), self._slots.lend(parent.book)))

    def delete_space(self, space):
        """Removes the space with its slots."""
        book = self._scene.find_space(space).book
        self._scene.remove_space(space)
        self._translations.drop_pages(space, 0, self.page_count)
        self._slots.delete(book)

    def spaces(self):
        """The numbers of the spaces."""
        return self._scene.space_numbers()

    def map_plain(self, space, start, length, rights):
        """Maps the pages to plain memory that is all zeros."""
        self.unmap(space, start, length)
        self._scene.find_space(space).marks.assign(start, start + length, rights)

    def map_shared(self, space, start, length, rights, name, first):
        """Maps the pages to the pages of a file from number first on."""
        self._file_to_map(space, start, length, name, first)
        self.unmap(space, start, length)
        self._scene.find_space(space).marks.assign(start, start + length, rights, file=name, index=first)

    def map_private(self, space, start, length, rights, name, first):
        """Maps the pages to plain memory with copies of the pages of a file from number first on."""
        file = self._file_to_map(space, start, length, name, first)
        self.map_plain(space, start, length, rights)
        book = self._scene.find_space(space).book
        for at in range(length):
            self._slots.copy_slot((file.book, first + at), (book, start + at))

    def unmap(self, space, start, length):
        """Removes the marks of the pages, and the slots of the plain ones."""
        chosen = self._scene.find_space(space)
        chosen.marks.unassign(start, start + length)
        self._translations.drop_pages(space, start, start + length)
        self._slots.drop(chosen.book, start, start + length)

    def protect(self, space, start, length, rights):
        """Replaces the rights of the pages."""
        self._scene.find_space(space).marks.protect(start, start + length, rights)
        self._translations.drop_pages(space, start, start + length, kept=rights)

    def regions(self, space):
        """The regions of the space."""
        return self._scene.find_space(space).marks.as_list()

    def find_hole(self, space, length, *, least=0):
        """The lowest start, not below least, of so many unmapped pages."""
        return find_hole(self._scene.find_space(space).marks, length, least=least)

    def walk(self, space, page):
        """The mark of the page or None, and the number of tables of the folded table that lead to it."""
        return FoldedTable(self._shape, self._scene.find_space(space).marks).walk(page)

    def create_file(self, name, size):
        """Makes a file of so many pages that are all zeros."""
        self._scene.check_new(name)
        check_stretch(0, size, self.page_count)
        self._scene.add_file(name, File(size, self._library.create()))

    def copy_file(self, name, new_name):
        """Makes a file with copies of all slots of a file."""
        file = self._scene.find_file(name)
        self._scene.check_new(new_name)
        self._scene.add_file(new_name, File(file.size, self._slots.lend(file.book)))

    def resize_file(self, name, size):
        """Removes the pages of the file from number size on, or adds pages that are all zeros."""
        file = self._scene.find_file(name)
        check_stretch(0, size, self.page_count)
        self._slots.drop(file.book, min(size, file.size), file.size)
        file.size = size

    def delete_file(self, name):
        """Removes a file to which no page of a space is mapped."""
        file = self._scene.find_file(name)
        if self._scene.is_mapped(name):
            raise FileInUse(name)
        self._scene.remove_file(name)
        self._slots.delete(file.book)

    def files(self):
        """The pairs (name, size) of the files."""
        return self._scene.file_sizes()

    def read(self, space, address, length, *, right="r", hand=0):
        """So many bytes of the space from address on."""
        data = []
        for key, slot, offset, part in self._uses(space, address, length, right):
            data.extend(self._slots.read_by(hand, key, slot, offset, part))
        return data

    def write(self, space, address, data, *, hand=0):
        """Writes the bytes to the space from address on."""
        uses = self._uses(space, address, len(data), "w")
        self._slots.check_room([use[1] for use in uses])
        done = 0
        for key, slot, offset, part in uses:
            self._slots.write_by(hand, key, slot, offset, data[done:done + part])
            done += part

    def check(self, space, address, length, *, right):
        """Raises what a read with that right would raise, or for "w" what a write would raise."""
        uses = self._uses(space, address, length, right)
        if right == "w":
            self._slots.check_room([use[1] for use in uses])

    def growth(self, space, address, length):
        """How many changes of a write of so many bytes would begin or copy."""
        return self._library.growth([use[1] for use in self._uses(space, address, length, "w")])

    def read_file(self, name, address, length):
        """So many bytes of the file from address on."""
        data = []
        for slot, offset, part in self._file_uses(name, address, length):
            data.extend(self._slots.read(slot, offset, part))
        return data

    def write_file(self, name, address, data):
        """Writes the bytes to the file from address on."""
        uses = self._file_uses(name, address, len(data))
        self._slots.check_room([use[0] for use in uses])
        done = 0
        for slot, offset, part in uses:
            self._slots.write(slot, offset, data[done:done + part])
            done += part

    def stamp_at(self, space, page):
        """The stamp of the slot of a page of the space."""
        book, book_page = self._slot_at(space, page)
        return self._library.stamp_of(book, book_page)

    def file_stamp(self, name, page):
        """The stamp of a page of the file."""
        file = self._scene.find_file(name)
        check_range(page, page + 1, file.size)
        return self._library.stamp_of(file.book, page)

    def stamps(self):
        """The different stamps of all slots."""
        return self._library.stamps()

    def tell_apart(self, space, page, other, other_page):
        """A stamp and the offset of its write that tell two pages of spaces apart, or None."""
        slot = self._slot_at(space, page)
        other_slot = self._slot_at(other, other_page)
        return self._library.tell_apart(slot[0], slot[1], other_slot[0], other_slot[1])

    def copies(self):
        """How many changes by writes so far had to copy."""
        return self._library.copies()

    def table_count(self):
        """The number of different tables of the books of all spaces, files and checkpoints."""
        return self._library.table_count()

    def holders(self, stamp):
        """The slots (space, page), and behind them the slots (name, page), that have the stamp."""
        return self._scene.named_slots(self._library.holders(stamp))

    def in_frames(self):
        """The stamps that are in frames."""
        return self._slots.in_frames()

    def in_places(self):
        """The stamps that are on places."""
        return self._slots.in_places()

    def walks(self):
        """The number of walks of all hands so far."""
        return self._translations.walk_count()

    def cached(self, hand):
        """The keys (space, page, right) in the cache of the hand, the most recently used one last."""
        return self._translations.keys_of(hand)

    def put_out(self, stamp):
        """Puts out the stamp and tells whether this was done."""
        return self._slots.put_out(stamp)

    def bring_in(self, stamp):
        """Brings the stamp into a frame and tells whether it is live."""
        return self._slots.bring_in(stamp)

    def empty_cache(self, hand):
        """Removes all keys from the cache of the hand and returns how many there were."""
        return self._translations.empty_cache(hand)

    def ledger(self):
        """A row (place, found stamp, found time, left stamp) for each use of a place."""
        return self._slots.ledger()

    def sweep(self):
        """What each place remembers now, as tuples (place, stamp, time)."""
        return self._slots.sweep()

    def held(self, stamp):
        """Brings the stamp and pins it, and tells whether it is live."""
        return self._slots.pin(stamp)

    def let_go(self):
        """Ends all pins."""
        self._slots.unpin()

    def sync(self):
        """Commits all files to the journal and returns the number of the blocks that were written for this."""
        return self._commit(None)

    def crash(self, *, stop=None, fates=()):
        """A power failure, if stop is given after so many operations of a commit; the files come back."""
        if stop is not None:
            self._commit(stop)
        self._device.crash(fates)
        self._journal = Journal(self._device, self._shape)
        for number in self._checkpoints.numbers():
            self.forget(number)
        self._delete_books(self._scene)
        self._scene = Scene()
        for name, size, tables, leaves in self._journal.files():
            self._scene.add_file(name, File(size, self._library.restore(tables, leaves)))
        contents = {stamp: self._journal.content(stamp) for stamp in self._journal.stamps()}
        self._slots.start_again(self._new_pager(), contents)

    def checkpoint(self):
        """Copies all spaces and files and returns the number of the checkpoint."""
        return self._checkpoints.keep(self._scene.lent(self._slots))

    def go_back(self, number):
        """Replaces all spaces and files by copies of those of the checkpoint, which stays."""
        kept = self._checkpoints.find_scene(number)
        gone = self._scene
        self._translations.empty_all()
        self._scene = kept.lent(self._slots)
        self._delete_books(gone)

    def forget(self, number):
        """Removes the checkpoint."""
        kept = self._checkpoints.find_scene(number)
        self._checkpoints.lose(number)
        self._delete_books(kept)

    def attempt(self, deeds):
        """Does all deeds (name of a method, arguments ..) and returns their answers, or does none of them."""
        number = self.checkpoint()
        try:
            answers = [self._do_deed(deed) for deed in deeds]
        except PagesError:
            self.go_back(number)
            self.forget(number)
            raise
        self.forget(number)
        return answers

    def _new_pager(self):
        """A pager of the size of the house."""
        return Pager(self.frames, self._places, self.page_size, chooser=self._chooser)

    def _slot_at(self, space, page):
        """The slot of a page of the space."""
        self._scene.find_space(space)
        check_range(page, page + 1, self.page_count)
        return self._scene.slot_at(space, page, "")

    def _uses(self, space, address, length, right):
        """The uses (key, slot, offset, length) of pages of the space for so many bytes from address on."""
        self._scene.find_space(space)
        check_stretch(address, address + length, self.page_count * self.page_size)
        parts = pieces(address, length, self.page_size)
        return [((space, page, right), self._scene.slot_at(space, page, right), offset, part)
                for page, offset, part in parts]

    def _file_uses(self, name, address, length):
        """The uses (slot, offset, length) of pages of the file for so many bytes from address on."""
        file = self._scene.find_file(name)
        check_stretch(address, address + length, file.size * self.page_size)
        return [((file.book, page), offset, part) for page, offset, part in pieces(address, length, self.page_size)]

    def _file_to_map(self, space, start, length, name, first):
        """The file so many pages of which, from number first on, can be mapped to pages of the space."""
        self._scene.find_space(space)
        check_range(start, start + length, self.page_count)
        file = self._scene.find_file(name)
        if first + length > file.size:
            raise BeyondFile(name, max(first, file.size))
        return file

    def _commit(self, stop):
        """Commits all files, or does only so many operations of this."""
        files = self._scene.file_states(self._library)
        # This comes before the contents are read, because a call that raises an error changes no frames.
        self._journal.check_blocks(files)
        stamps = self._journal.new_stamps(files)
        contents = {stamp: self._slots.read_stamp(stamp, 0, self.page_size) for stamp in stamps}
        return self._journal.commit(files, contents, stop=stop)

    def _delete_books(self, scene):
        """Removes the slots of a scene that is no more."""
        for book in scene.books():
            self._slots.delete(book)

    def _do_deed(self, deed):
        """Does one deed of an attempt."""
        methods = {
            "create_space": self.create_space, "fork_space": self.fork_space, "delete_space": self.delete_space,
            "map_plain": self.map_plain, "unmap": self.unmap, "protect": self.protect, "write": self.write,
            "write_file": self.write_file,
        }
        method = methods[deed[0]]
        given = deed[1:]
        return method(*given)
