"""Slots: the pages of the books of a library, with their contents in a pager and keys that lead to them.

A slot is a pair (book, page). Each change of the library or the pager that ends the condition of keys in the caches
removes these keys at once.
"""

from lentpages.errors import NoRoom, NoStamp


class Slots:
    """Keeps the contents of slots under their stamps, and the keys in the caches in agreement with both."""

    def __init__(self, library, pager, translations):
        self._library = library
        self._pager = pager
        self._translations = translations

    def read(self, slot, offset, length):
        """So many bytes of the slot, from byte offset on."""
        stamp = self._stamp_of(slot)
        if stamp == 0:
            return [0] * length
        return self.read_stamp(stamp, offset, length)

    def read_stamp(self, stamp, offset, length):
        """So many bytes of the content of the stamp, from byte offset on."""
        data = self._pager.read(stamp, offset, length)
        self._drop_left()
        return data

    def write(self, slot, offset, data):
        """Writes at least one byte to the slot, from byte offset on."""
        book, page = slot
        action, old, new = self._library.next_write(book, page)
        # The pager comes first: if it is starved, the library has not changed yet.
        if action == "begin":
            self._pager.begin(new)
        elif action == "copy":
            self._pager.duplicate(old, new)
        else:
            self._pager.rename(old, new)
        self._pager.store(new, offset, data)
        # The keys to what was put out are found by the stamps from before this change.
        self._drop_left()
        if action == "copy":
            self._translations.drop_keys(lambda key, led: led == slot)
        self._library.write(book, page, offset=offset, length=len(data))

    def read_by(self, hand, key, slot, offset, length):
        """Reads from the slot to which the key leads, by a hand."""
        found = self._translations.find_key(hand, key)
        data = self.read(slot, offset, length)
        if not found:
            self._put_key(hand, key, slot)
        return data

    def write_by(self, hand, key, slot, offset, data):
        """Writes to the slot to which the key leads, by a hand."""
        found = self._translations.find_key(hand, key)
        self.write(slot, offset, data)
        if not found:
            self._put_key(hand, key, slot)

    def check_room(self, slots):
        """Raises NoRoom if there would be too many stamps after a write to these slots."""
        needed = len(self._library.stamps()) + self._library.growth(slots)
        if needed > self._pager.room():
            raise NoRoom(needed, self._pager.room())

    def lend(self, book):
        """Makes a book with copies of the slots of a book."""
        lent = self._library.lend(book)
        self._drop_shared()
        return lent

    def copy_slot(self, slot, target):
        """Gives the target, a slot with stamp 0, the stamp and the content of a slot."""
        book, page = slot
        target_book, target_page = target
        self._library.copy_page(book, page, target_book, target_page)
        self._drop_shared()

    def drop(self, book, start, end):
        """Sets the slots of the range to stamp 0."""
        self._translations.drop_keys(lambda key, led: led[0] == book and start <= led[1] < end)
        self._release(self._library.drop_range(book, start, end))

    def delete(self, book):
        """Removes a book to whose slots no key leads."""
        self._release(self._library.delete(book))

    def put_out(self, stamp):
        """Puts out a stamp; False if this cannot be done or the stamp is not live."""
        try:
            done = self._pager.put_out(stamp)
        except NoStamp:
            return False
        self._drop_left()
        return done

    def bring_in(self, stamp):
        """Brings a stamp; False if it is not live."""
        try:
            self._pager.bring(stamp)
        except NoStamp:
            return False
        self._drop_left()
        return True

    def pin(self, stamp):
        """Brings and pins a stamp; False if it is not live."""
        try:
            self._pager.pin(stamp)
        except NoStamp:
            return False
        self._drop_left()
        return True

    def unpin(self):
        """Ends all pins."""
        self._pager.unpin()

    def in_frames(self):
        """The stamps that are in frames, in ascending order."""
        return sorted([stamp for stamp in self._pager.frame_list() if stamp != 0])

    def in_places(self):
        """The stamps that are on places, in ascending order."""
        return sorted([stamp for stamp in self._pager.place_list() if stamp != 0])

    def ledger(self):
        """The rows of the uses of places."""
        return self._pager.ledger()

    def sweep(self):
        """What each place remembers."""
        return self._pager.sweep()

    def start_again(self, pager, contents):
        """Takes a new pager for the contents of the stamps, with empty caches."""
        self._translations.empty_all()
        self._pager = pager
        for stamp in sorted(contents):
            pager.begin(stamp)
            pager.store(stamp, 0, contents[stamp])
        self._drop_left()

    def _stamp_of(self, slot):
        """The stamp of the slot."""
        book, page = slot
        return self._library.stamp_of(book, page)

    def _put_key(self, hand, key, slot):
        """Puts the key of a slot that was used just now into the cache of the hand, if it may be there."""
        # The stamp is in a frame, because the slot was used, unless it is 0.
        if self._stamp_of(slot) != 0 and not (key[2] == "w" and self._is_shared(slot)):
            self._translations.put_key(hand, key, slot)

    def _is_shared(self, slot):
        """Whether the stamp of the slot, which is not 0, has other holders, too."""
        return self._library.holder_count(self._stamp_of(slot)) >= 2

    def _drop_shared(self):
        """Removes the keys with the right to write from all caches, if their stamps have other holders, too."""
        self._translations.drop_keys(lambda key, led: key[2] == "w" and self._is_shared(led))

    def _drop_left(self):
        """Removes the keys that lead to the stamps that were put out since this was last done."""
        left = self._pager.left()
        if left:
            self._translations.drop_keys(lambda key, led: self._stamp_of(led) in left)

    def _release(self, stamps):
        """Ends stamps that have lost their last holder."""
        for stamp in stamps:
            self._pager.release(stamp)
