"""Crew rules: for each rule of the crew a run that goes wrong if the rule is left out."""


def broken_run(rule):
    """Programs and a schedule whose answers are not those of plain memory if the rule is left out."""
    if rule == "lend":
        return _write_after_fork()
    if rule == "hold":
        return _read_before_unmapping_ends()
    return _read_after_unmapping()


def _read_after_unmapping():
    """Hand 1 keeps its key when hand 0 unmaps the page, because there is no notice or it is not taken in time."""
    programs = [
        [("map", 0, 5, "rw"), ("unmap", 0, 5)],
        [("read", 0, 5), ("read", 0, 5)],
    ]
    return (programs, [("turn", 0), ("turn", 1), ("turn", 0), ("turn", 1)])


def _read_before_unmapping_ends():
    """Hand 1 gets its key again after it took the notice, and before the page is unmapped."""
    programs = [
        [("map", 0, 5, "rw"), ("unmap", 0, 5)],
        [("read", 0, 5), ("read", 0, 5), ("read", 0, 5)],
    ]
    announced = [("turn", 0), ("turn", 1), ("turn", 0)]
    return (programs, announced + [("take", 1), ("turn", 1), ("turn", 0), ("turn", 1)])


def _write_after_fork():
    """Hand 0 keeps its key and writes to the sheet that the new space has, too."""
    program = [("map", 0, 5, "rw"), ("write", 0, 5, 1), ("fork", 0), ("write", 0, 5, 2), ("read", 1, 5)]
    return ([program], [("turn", 0)] * len(program))
