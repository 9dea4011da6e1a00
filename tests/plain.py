"""Plain models that the program is compared with, page by page, and what several tests share."""

from lentpages.errors import BadRange, Unmapped

RIGHTS = ("", "r", "w", "x", "rw", "rx", "wx", "rwx")


def successor(mark):
    rights, file, index = mark
    return (rights, file, index + 1) if file else mark


class PlainMarks:
    """A table with one mark or None for each page."""

    def __init__(self, limit):
        self.limit = limit
        self.marks = [None] * limit

    def check(self, start, end):
        if not (0 <= start < end <= self.limit):
            raise BadRange(start, end)

    def assign(self, start, end, rights, *, file="", index=0):
        self.check(start, end)
        for page in range(start, end):
            self.marks[page] = (rights, file, index + page - start) if file else (rights, "", 0)

    def unassign(self, start, end):
        self.check(start, end)
        for page in range(start, end):
            self.marks[page] = None

    def protect(self, start, end, rights):
        self.check(start, end)
        for page in range(start, end):
            if self.marks[page] is None:
                raise Unmapped(page)
        for page in range(start, end):
            self.marks[page] = (rights,) + self.marks[page][1:]

    def runs(self):
        """The longest runs of pages each of which continues the page before it."""
        runs = []
        for page, mark in enumerate(self.marks):
            if mark is None:
                continue
            if page and self.marks[page - 1] and mark == successor(self.marks[page - 1]):
                runs[-1] = (runs[-1][0], page + 1) + runs[-1][2:]
            else:
                runs.append((page, page + 1) + mark)
        return runs


def outcome(deed, *args, **more):
    """What a call returns, or the class and the fields of the error that it raises."""
    try:
        return ("returned", deed(*args, **more))
    except ValueError as error:
        return ("raised", error.__class__, vars(error))


def random_deed(rng, limit):
    """A deed for a Regions object: its name, arguments and keyword arguments."""
    start = rng.choice((0, rng.randint(0, limit - 1), rng.randint(-2, limit)))
    length = rng.choice((1, 2, rng.randint(1, max(1, limit // 20)), rng.randint(-2, limit)))
    end = limit if rng.random() < 0.1 else start + length
    rights = rng.choice(RIGHTS)
    kind = rng.choice(("assign", "file", "continue", "unassign", "protect"))
    if kind == "unassign":
        return ("unassign", (start, end), {})
    if kind == "protect":
        return ("protect", (start, end, rights), {})
    if kind == "assign":
        return ("assign", (start, end, rights), rng.choice(({}, {"index": rng.randint(0, 9)})))
    if kind == "continue":
        # Pages and indexes that grow together make runs that meet and continue each other.
        return ("assign", (start, end, rng.choice(("r", "rw"))), {"file": "data", "index": max(0, start)})
    more = {"file": rng.choice(("data", "other"))}
    if rng.random() < 0.7:
        more["index"] = rng.choice((0, rng.randint(0, 10000)))
    return ("assign", (start, end, rights), more)


def fill_marks(rng, limit, deeds):
    """A plain table and the deeds that made it, all of them without errors."""
    plain = PlainMarks(limit)
    done = []
    while len(done) < deeds:
        name, args, more = random_deed(rng, limit)
        if outcome(getattr(plain, name), *args, **more)[0] == "returned":
            done.append((name, args, more))
    return plain, done


def do_deeds(regions, deeds):
    """Does deeds of random_deed on a Regions object."""
    for name, args, more in deeds:
        getattr(regions, name)(*args, **more)
    return regions
