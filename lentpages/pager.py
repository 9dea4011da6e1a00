"""The pager: contents of pages, each under a stamp, in few frames and on the places of a store."""

from lentpages.choosers import Chooser
from lentpages.errors import NoRoom, NoStamp, Starved
from lentpages.places import Places


class Pager:
    """Keeps the contents of live stamps, each in a frame, on a place, or both."""

    def __init__(self, frames, places, page_size, *, chooser="lru"):
        # An empty frame has the stamp 0.
        self._frames = [0] * frames
        self._places = Places(places)
        self._room = frames + max(0, places - 1)
        self._page_size = page_size
        self._chooser = Chooser(chooser, frames)
        # A content is the same in its frame and on its place, because storing frees the place.
        self._contents = {}
        self._pinned = {}
        self._left = []

    def room(self):
        """The largest number of live stamps."""
        return self._room

    def bring(self, stamp):
        """Makes sure that the content of the stamp is in a frame."""
        self._check_live(stamp)
        if stamp in self._frames:
            self._chooser.touched(self._frames.index(stamp))
        else:
            frame = self._obtain(self._frames_to_choose())
            self._places.read_from(stamp)
            self._fill(frame, stamp)

    def begin(self, stamp):
        """Makes a stamp live, with zeros as its content."""
        self._check_room()
        frame = self._obtain(self._frames_to_choose())
        self._contents[stamp] = [0] * self._page_size
        self._fill(frame, stamp)

    def duplicate(self, old, new):
        """Makes the new stamp live with the content of the old one."""
        self._check_live(old)
        self._check_room()
        self.bring(old)
        frame = self._obtain_beside(self._frames.index(old))
        self._contents[new] = list(self._contents[old])
        self._fill(frame, new)

    def rename(self, old, new):
        """Keeps the content of the old stamp under the new one, in the same frame."""
        self.bring(old)
        self._frames[self._frames.index(old)] = new
        self._places.free(old)
        self._contents[new] = self._contents.pop(old)

    def read(self, stamp, offset, length):
        """So many bytes of the content, from byte offset on."""
        self.bring(stamp)
        return self._contents[stamp][offset:offset + length]

    def store(self, stamp, offset, data):
        """Writes the data into the content, from byte offset on."""
        self.bring(stamp)
        self._contents[stamp][offset:offset + len(data)] = data
        self._places.free(stamp)

    def release(self, stamp):
        """Ends a live stamp."""
        self._check_live(stamp)
        if stamp in self._frames:
            self._empty_frame(stamp)
        self._places.free(stamp)
        del self._contents[stamp]

    def put_out(self, stamp):
        """Puts out the stamp, if it is in a frame that is not pinned and a place can be had for it."""
        self._check_live(stamp)
        if stamp not in self._frames or self._frames.index(stamp) in self._pinned:
            return False
        # A stamp that has a place is itself on both.
        if not self._places.has_free() and not self._stamps_on_both():
            return False
        self._move_out(stamp)
        return True

    def pin(self, stamp):
        """Brings the stamp and pins its frame."""
        self.bring(stamp)
        self._pinned[self._frames.index(stamp)] = True

    def unpin(self):
        """Ends all pins."""
        self._pinned = {}

    def live(self):
        """The live stamps in ascending order."""
        return sorted(self._contents)

    def frame_list(self):
        """The stamps in the frames, 0 for an empty one."""
        return list(self._frames)

    def place_list(self):
        """The stamps on the places, 0 for a free one."""
        return self._places.stamp_list()

    def page_in_count(self):
        """How many contents were read from a place."""
        return self._places.read_count()

    def page_out_count(self):
        """How many contents were written to a place."""
        return self._places.write_count()

    def left(self):
        """The stamps that were put out since this was last asked, in this order."""
        left = self._left
        self._left = []
        return left

    def ledger(self):
        """A row (place, found stamp, found time, left stamp) for each use of a place."""
        return self._places.rows()

    def sweep(self):
        """What each place remembers now, as tuples (place, stamp, time)."""
        return self._places.sweep()

    def _check_live(self, stamp):
        """Raises NoStamp unless the stamp is live."""
        if stamp not in self._contents:
            raise NoStamp(stamp)

    def _check_room(self):
        """Raises NoRoom unless one more stamp can be live."""
        needed = len(self._contents) + 1
        if needed > self._room:
            raise NoRoom(needed, self._room)

    def _frames_to_choose(self):
        """The frames that are not pinned."""
        return [frame for frame in range(len(self._frames)) if frame not in self._pinned]

    def _obtain(self, candidates):
        """The lowest empty frame; if there is none, one of the candidates, whose stamp is put out."""
        if 0 in self._frames:
            return self._frames.index(0)
        if not candidates:
            raise Starved(len(self._frames) + 1, len(self._frames))
        frame = self._chooser.choose(candidates)
        self._move_out(self._frames[frame])
        return frame

    def _obtain_beside(self, frame):
        """Another frame if one can be had, otherwise this one, whose stamp is put out."""
        others = [other for other in self._frames_to_choose() if other != frame]
        if others or frame in self._pinned:
            return self._obtain(others)
        self._move_out(self._frames[frame])
        return frame

    def _fill(self, frame, stamp):
        """Puts the stamp into an empty frame."""
        self._frames[frame] = stamp
        self._chooser.filled(frame)

    def _empty_frame(self, stamp):
        """Empties the frame of the stamp and ends its pin."""
        frame = self._frames.index(stamp)
        self._frames[frame] = 0
        self._pinned.pop(frame, None)
        self._chooser.emptied(frame)

    def _move_out(self, stamp):
        """Puts out a stamp for which a place can be had."""
        if not self._places.has_stamp(stamp):
            if not self._places.has_free():
                self._places.free(min(self._stamps_on_both()))
            self._places.write_to(stamp)
        self._left.append(stamp)
        self._empty_frame(stamp)

    def _stamps_on_both(self):
        """The stamps that are both in a frame and on a place."""
        return [stamp for stamp in self._frames if stamp != 0 and self._places.has_stamp(stamp)]
