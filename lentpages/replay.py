"""Replay: the deeds of a crew, one at a time, in the memory of a house."""

from lentpages.errors import Denied, NoSpace, Unmapped


def replay(programs, order, house):
    """Does the deeds (hand, position) of the order in a house without spaces; returns the answers of each hand."""
    house.create_space()
    answers = [[] for _ in programs]
    for hand, position in order:
        answers[hand].append(_answer(programs[hand][position], house, hand % house.hands))
    return answers


def _answer(deed, house, hand):
    """Does the deed, unless it is refused, and returns its answer."""
    try:
        if deed[0] == "fork":
            return house.fork_space(deed[1])
        if deed[0] == "read":
            return house.read(deed[1], deed[2] * house.page_size, 1, hand=hand)[0]
        return _do_silent(deed, house, hand)
    except (NoSpace, Unmapped, Denied):
        return "refused"


def _do_silent(deed, house, hand):
    """Does a deed that has nothing to tell; the errors of the house are those for which deeds are refused."""
    kind, space, page = deed[:3]
    if kind == "write":
        house.write(space, page * house.page_size, [deed[3]], hand=hand)
    elif kind == "protect":
        house.protect(space, page, 1, deed[3])
    # The house itself lets mapped pages be mapped, and unmapped ones be unmapped.
    elif (house.walk(space, page)[0] is None) != (kind == "map"):
        return "refused"
    elif kind == "map":
        house.map_plain(space, page, 1, deed[3])
    else:
        house.unmap(space, page, 1)
    return "done"
