"""A plain crew that goes through the list of point 70 case by case, plain memory, and random programs."""

from tests.plain import RIGHTS

RULES = ("announce", "wait", "hold", "lend")


class PlainMemory:
    """A table of [rights, value] for each space; deeds are done one at a time."""

    def __init__(self):
        self.spaces = [{}]

    def refuses(self, deed):
        kind, space = deed[:2]
        if space not in range(len(self.spaces)):
            return True
        row = None if kind == "fork" else self.spaces[space].get(deed[2])
        if kind == "map":
            return row is not None
        if kind in ("unmap", "protect"):
            return row is None
        return kind != "fork" and (row is None or kind[0] not in row[0])

    def do(self, deed):
        if self.refuses(deed):
            return "refused"
        kind, space = deed[:2]
        pages = self.spaces[space]
        if kind == "fork":
            self.spaces.append({page: list(row) for page, row in pages.items()})
            return len(self.spaces) - 1
        if kind == "map":
            pages[deed[2]] = [deed[3], 0]
        elif kind == "unmap":
            del pages[deed[2]]
        elif kind == "protect":
            pages[deed[2]][0] = deed[3]
        elif kind == "write":
            pages[deed[2]][1] = deed[3]
        else:
            return pages[deed[2]][1]
        return "done"


def plain_answers(programs, order):
    """The answers of each hand if the deeds are done one at a time in this order."""
    memory = PlainMemory()
    answers = [[] for _ in programs]
    for hand, position in order:
        answers[hand].append(memory.do(programs[hand][position]))
    return answers


class PlainCrew:
    """Pages are [rights, sheet], a sheet is a list with one value; the notices are in one list of all hands."""

    def __init__(self, programs, *, without=""):
        self.programs = programs
        self.without = without
        self.spaces = [{}]
        self.caches = [{} for _ in programs]
        self.ended = [[] for _ in programs]
        self.announced = [False for _ in programs]
        # Rows [from, to, test of a key].
        self.notices = []
        self.log = []

    def order(self):
        return list(self.log)

    def answers(self, hand):
        return list(self.ended[hand])

    def cached(self, hand):
        return sorted(self.caches[hand])

    def waiting(self, hand):
        return len([notice for notice in self.notices if notice[1] == hand])

    def finished(self):
        return [len(answers) for answers in self.ended] == [len(program) for program in self.programs]

    def deed_of(self, hand):
        return self.programs[hand][len(self.ended[hand])]

    def remove(self, hand, test):
        for key in [key for key in self.caches[hand] if test(key)]:
            del self.caches[hand][key]

    def take(self, hand):
        taken = [notice for notice in self.notices if notice[1] == hand]
        self.notices = [notice for notice in self.notices if notice[1] != hand]
        for _, _, test in taken:
            self.remove(hand, test)
        return len(taken)

    def lose(self, hand):
        count = len(self.caches[hand])
        self.caches[hand] = {}
        return count

    def end(self, hand, answer):
        self.log.append((hand, len(self.ended[hand])))
        self.ended[hand].append(answer)
        self.announced[hand] = False
        return "ended"

    def sharers(self, sheet):
        return len([row for pages in self.spaces for row in pages.values() if row[1] is sheet])

    def page(self, deed):
        return self.spaces[deed[1]].get(deed[2]) if deed[1] in range(len(self.spaces)) else None

    def turn(self, hand):
        if len(self.ended[hand]) == len(self.programs[hand]):
            return "idle"
        deed = self.deed_of(hand)
        if self.announced[hand]:
            if [notice for notice in self.notices if notice[0] == hand]:
                return "waits"
            return self.end(hand, self.carry_out(hand, deed))
        if deed[0] in ("read", "write"):
            sheet = self.caches[hand].get((deed[1], deed[2], deed[0][0]))
            if sheet:
                return self.end(hand, self.use(sheet, deed))
        if self.without != "hold" and self.is_held(hand, deed):
            return "held"
        if self.is_refused(deed):
            return self.end(hand, "refused")
        test = self.concerned(deed)
        if not test:
            return self.end(hand, self.carry_out(hand, deed))
        self.remove(hand, test)
        others = [other for other in range(len(self.programs)) if other != hand]
        others = [other for other in others if any([test(key) for key in self.caches[other]])]
        if self.without == "announce" or not others:
            return self.end(hand, self.carry_out(hand, deed))
        self.notices += [[hand, other, test] for other in others]
        if self.without == "wait":
            return self.end(hand, self.carry_out(hand, deed))
        self.announced[hand] = True
        return "announced"

    def is_held(self, hand, deed):
        for other in range(len(self.programs)):
            if other != hand and self.announced[other]:
                about = self.deed_of(other)
                if about[1] == deed[1] and ("fork" in (about[0], deed[0]) or about[2] == deed[2]):
                    return True
        return False

    def is_refused(self, deed):
        if deed[1] not in range(len(self.spaces)):
            return True
        if deed[0] == "fork":
            return False
        row = self.page(deed)
        if deed[0] == "map" or not row:
            return bool(row) if deed[0] == "map" else True
        return deed[0] in ("read", "write") and deed[0][0] not in row[0]

    def concerned(self, deed):
        """A test of the keys that the deed concerns, or None."""
        kind, space = deed[:2]
        if kind == "fork":
            return None if self.without == "lend" else lambda key: key[0] == space and key[2] == "w"
        row = self.page(deed)
        if kind == "unmap" or (kind == "write" and self.sharers(row[1]) > 1):
            return lambda key: key[:2] == deed[1:3]
        if kind == "protect":
            lost = set(row[0]) - set(deed[3])
            return (lambda key: key[:2] == deed[1:3] and key[2] in lost) if lost else None
        return None

    def carry_out(self, hand, deed):
        if deed[0] == "fork":
            self.spaces.append({page: list(row) for page, row in self.spaces[deed[1]].items()})
            return len(self.spaces) - 1
        row = self.page(deed)
        if deed[0] == "map":
            self.spaces[deed[1]][deed[2]] = [deed[3], [0]]
        elif not row:
            return "done"
        elif deed[0] == "unmap":
            del self.spaces[deed[1]][deed[2]]
        elif deed[0] == "protect":
            row[0] = deed[3]
        else:
            if deed[0] == "write" and self.sharers(row[1]) > 1:
                row[1] = [None]
            self.caches[hand][(deed[1], deed[2], deed[0][0])] = row[1]
            return self.use(row[1], deed)
        return "done"

    def use(self, sheet, deed):
        if deed[0] == "read":
            return sheet[0]
        sheet[0] = deed[3]
        return "done"

    def keys_are_right(self):
        """Whether each key leads to the sheet of its page, which has the right and, to write, is not shared."""
        for keys in self.caches:
            for (space, page, right), sheet in keys.items():
                row = self.spaces[space].get(page)
                if not row or row[1] is not sheet or right not in row[0]:
                    return False
                if right == "w" and self.sharers(sheet) > 1:
                    return False
        return True


def random_programs(rng, hands, deeds, pages=2, spaces=3):
    """Programs whose deeds are about few pages, so that they meet."""
    programs = []
    for _ in range(hands):
        program = []
        for _ in range(rng.randint(0, deeds)):
            kind = rng.choice(("map", "map", "unmap", "protect", "fork", "fork") + ("read", "write") * 4)
            space = rng.randrange(spaces)
            page = rng.choice([rng.randrange(pages)] * 7 + [1000])
            rest = ()
            if kind in ("map", "protect"):
                rest = (rng.choice(("rw", "rw", "rw", "r") + RIGHTS),)
            elif kind == "write":
                rest = (rng.randrange(256),)
            program.append((kind, space) if kind == "fork" else (kind, space, page) + rest)
        programs.append(program)
    # Most deeds are refused before there is something to work on.
    start = [("map", 0, 0, "rw"), ("write", 0, 0, 1), ("fork", 0)][:rng.choice((1, 3))]
    programs[0] = start + programs[0][len(start):]
    return programs


def random_schedule(rng, hands, steps):
    kinds = ("turn",) * 8 + ("take",) * 3 + ("lose",)
    return [(rng.choice(kinds), rng.randrange(hands)) for _ in range(steps)]
