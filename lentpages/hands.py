"""Hands of a crew: each has a program, a cache of keys, and notices that it has not taken.

Names (space, page, rights) stand for the keys (space, page, right) with one of these rights; if page is None, for those
of all pages of the space.
"""


class Hand:
    """A hand with its program, of which the deeds that have an answer have ended."""

    def __init__(self, program):
        self._program = list(program)
        self._answers = []
        self._is_announced = False
        # The sheets to which the keys in the cache lead.
        self._sheets = {}
        # Pairs of the number of the hand that gave the notice, and names.
        self._notices = []

    def is_done(self):
        """Whether all deeds have ended."""
        return len(self._answers) == len(self._program)

    def deed(self):
        """The first deed that has not ended."""
        return self._program[len(self._answers)]

    def ended_count(self):
        """The number of deeds that have ended, which is the position of this deed."""
        return len(self._answers)

    def end_deed(self, answer):
        """Ends this deed."""
        self._answers.append(answer)
        self._is_announced = False

    def announce(self):
        """Announces this deed."""
        self._is_announced = True

    def is_announced(self):
        """Whether there is such a deed and it is announced."""
        return self._is_announced

    def answer_list(self):
        """The answers of the deeds that have ended."""
        return list(self._answers)

    def key_list(self):
        """The keys in the cache in ascending order."""
        return sorted(self._sheets)

    def sheet_for(self, key):
        """The sheet to which the key in the cache leads, or None if it is not there."""
        return self._sheets.get(key)

    def put_key(self, key, sheet):
        """Puts the key into the cache."""
        self._sheets[key] = sheet

    def has_keys(self, names):
        """Whether one of the named keys is in the cache."""
        return any([is_named(key, names) for key in self._sheets])

    def drop_keys(self, names):
        """Removes the named keys from the cache."""
        self._sheets = {key: self._sheets[key] for key in self._sheets if not is_named(key, names)}

    def lose_keys(self):
        """Removes all keys from the cache and returns how many there were."""
        count = len(self._sheets)
        self._sheets = {}
        return count

    def give_notice(self, giver, names):
        """Gives this hand a notice of the announced deed of another hand."""
        self._notices.append((giver, names))

    def has_notice_of(self, giver):
        """Whether this hand has a notice of the other hand."""
        return any([notice[0] == giver for notice in self._notices])

    def notice_count(self):
        """The number of notices."""
        return len(self._notices)

    def take_notices(self):
        """Takes all notices, which removes the keys that they name, and returns how many there were."""
        taken = self._notices
        self._notices = []
        for _, names in taken:
            self.drop_keys(names)
        return len(taken)


def is_named(key, names):
    """Whether the names stand for the key, among others."""
    space, page, rights = names
    return key[0] == space and page in (None, key[1]) and key[2] in rights
