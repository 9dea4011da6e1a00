"""The crew: hands that work at the same time on a small memory, each with a cache and with notices of the others."""

from lentpages.hands import Hand
from lentpages.sheets import Sheets


class Crew:
    """Lets hands do the deeds of their programs, turn by turn. One of the rules may be left out."""

    def __init__(self, programs, *, without=""):
        self._hands = [Hand(program) for program in programs]
        self._sheets = Sheets()
        self._without = without
        self._order = []

    def turn(self, hand):
        """A work turn for the next deed of the hand; tells what became of it."""
        worker = self._hands[hand]
        if worker.is_done():
            return "idle"
        deed = worker.deed()
        if worker.is_announced():
            return "waits" if self._is_awaited(hand) else self._end(hand, self._carry_out(hand, deed))
        sheet = worker.sheet_for(_key_of(deed))
        if sheet is not None:
            return self._end(hand, self._use_sheet(sheet, deed))
        if self._is_held(hand, deed):
            return "held"
        if self._is_refused(deed):
            return self._end(hand, "refused")
        names = self._names_of(deed)
        if names is not None and self._announces(hand, names):
            return "announced"
        return self._end(hand, self._carry_out(hand, deed))

    def take(self, hand):
        """Lets the hand take all its notices and returns how many there were."""
        return self._hands[hand].take_notices()

    def lose(self, hand):
        """Removes all keys from the cache of the hand and returns how many there were."""
        return self._hands[hand].lose_keys()

    def waiting(self, hand):
        """The number of notices that the hand has not taken."""
        return self._hands[hand].notice_count()

    def order(self):
        """The pairs (hand, position) of the deeds that have ended, in this order."""
        return list(self._order)

    def answers(self, hand):
        """The answers of the deeds of the hand that have ended."""
        return self._hands[hand].answer_list()

    def cached(self, hand):
        """The keys in the cache of the hand in ascending order."""
        return self._hands[hand].key_list()

    def finished(self):
        """Whether all deeds have ended."""
        return all([worker.is_done() for worker in self._hands])

    def hand_count(self):
        """The number of hands."""
        return len(self._hands)

    def _end(self, hand, answer):
        """Ends the deed of the hand with its answer."""
        self._order.append((hand, self._hands[hand].ended_count()))
        self._hands[hand].end_deed(answer)
        return "ended"

    def _is_awaited(self, hand):
        """Whether some notice of the announced deed of the hand is not taken."""
        return any([other.has_notice_of(hand) for other in self._hands])

    def _is_held(self, hand, deed):
        """Whether the deed has to wait for an announced deed of another hand."""
        if self._without == "hold":
            return False
        others = [other for at, other in enumerate(self._hands) if at != hand and other.is_announced()]
        return any([_meet(_place_of(deed), _place_of(other.deed())) for other in others])

    def _is_refused(self, deed):
        """Whether the memory is not as the deed needs it."""
        if not self._sheets.has_space(deed[1]):
            return True
        if deed[0] == "fork":
            return False
        rights = self._sheets.rights_of(deed[1], deed[2])
        if deed[0] == "map":
            return rights is not None
        if rights is None:
            return True
        return (deed[0] == "read" and "r" not in rights) or (deed[0] == "write" and "w" not in rights)

    def _names_of(self, deed):
        """The names of the keys that the deed concerns, or None if it concerns no keys."""
        kind = deed[0]
        space, page = _place_of(deed)
        if kind == "fork":
            return None if self._without == "lend" else (space, None, "w")
        if kind == "unmap" or (kind == "write" and self._sheets.is_shared(space, page)):
            return (space, page, "rw")
        if kind == "protect":
            taken = [right for right in self._sheets.rights_of(space, page) if right not in deed[3]]
            return (space, page, "".join(taken)) if taken else None
        return None

    def _announces(self, hand, names):
        """Takes the named keys from the hand and gives notices to the others; tells whether the deed has to wait."""
        self._hands[hand].drop_keys(names)
        if self._without == "announce":
            return False
        others = [other for at, other in enumerate(self._hands) if at != hand and other.has_keys(names)]
        for other in others:
            other.give_notice(hand, names)
        if not others or self._without == "wait":
            return False
        self._hands[hand].announce()
        return True

    def _carry_out(self, hand, deed):
        """Carries out the deed of the hand and returns the answer."""
        kind = deed[0]
        space, page = _place_of(deed)
        if kind == "fork":
            return self._sheets.fork(space)
        if kind == "map":
            self._sheets.map_page(space, page, deed[3])
        elif self._sheets.rights_of(space, page) is None:
            # This happens only if a rule is left out: the page was unmapped after the deed was announced.
            return "done"
        elif kind == "unmap":
            self._sheets.unmap_page(space, page)
        elif kind == "protect":
            self._sheets.protect_page(space, page, deed[3])
        else:
            return self._use_page(hand, deed)
        return "done"

    def _use_page(self, hand, deed):
        """Reads or writes the page of the deed, puts its key into the cache of the hand, and returns the answer."""
        space, page = _place_of(deed)
        if deed[0] == "write" and self._sheets.is_shared(space, page):
            self._sheets.part_page(space, page)
        sheet = self._sheets.sheet_of(space, page)
        self._hands[hand].put_key(_key_of(deed), sheet)
        return self._use_sheet(sheet, deed)

    def _use_sheet(self, sheet, deed):
        """Reads or writes the sheet as the deed says and returns the answer."""
        if deed[0] == "read":
            return self._sheets.value_of(sheet)
        self._sheets.set_value(sheet, deed[3])
        return "done"


def play(crew, schedule):
    """Plays the steps ("turn", hand), ("take", hand) and ("lose", hand) and returns what they return."""
    found = []
    for kind, hand in schedule:
        if kind == "turn":
            found.append(crew.turn(hand))
        elif kind == "take":
            found.append(crew.take(hand))
        else:
            found.append(crew.lose(hand))
    return found


def finish(crew):
    """Plays rounds, in which each hand takes its notices and has a turn, until all deeds have ended."""
    rounds = 0
    while not crew.finished():
        rounds += 1
        for hand in range(crew.hand_count()):
            crew.take(hand)
            crew.turn(hand)
    return rounds


def _place_of(deed):
    """The space and page that the deed is about; the page is None if it is about the whole space."""
    return (deed[1], None) if deed[0] == "fork" else (deed[1], deed[2])


def _key_of(deed):
    """The key that the deed uses, or None if it is neither a read nor a write."""
    if deed[0] == "read":
        return (deed[1], deed[2], "r")
    return (deed[1], deed[2], "w") if deed[0] == "write" else None


def _meet(place, other):
    """Whether both places have a page in common."""
    return place[0] == other[0] and (place[1] == other[1] or None in (place[1], other[1]))
