"""The fewest page-ins of a trace: the reuses that can be kept, and cuts that show why there are no more."""


def fewest_page_ins(trace, frames):
    """The number of page-ins, the reuses (i, j) whose page stays in a frame, and the cuts."""
    reuses = _reuses_of(trace)
    kept = _keep(reuses, frames - 1)
    cuts = _cut(dict(reuses), len(trace), frames - 1)
    return (len(trace) - len(kept), kept, cuts)


def _reuses_of(trace):
    """The pairs of positions of the same page without a use of it between them, in ascending order."""
    last = {}
    reuses = []
    for at, page in enumerate(trace):
        if page in last:
            reuses.append((last[page], at))
        last[page] = at
    return sorted(reuses)


def _keep(reuses, room):
    """The most reuses, in ascending order, such that each position lies inside of at most so many."""
    given_up = {}
    inside = []
    for reuse in reuses:
        # The position behind the start of a reuse is the only one at which there can be one reuse too many.
        inside = [other for other in inside + [reuse] if other[1] > reuse[0] + 1]
        if len(inside) > room:
            # The reuse that ends last stands in the way of the others for longest.
            latest = max(inside, key=lambda pair: pair[1])
            inside.remove(latest)
            given_up[latest] = True
    return [pair for pair in reuses if pair not in given_up]


def _cut(ends, length, price):
    """The cheapest cuts, if each costs the price and each reuse without a cut inside costs 1.

    The dict leads from the start of each reuse to its end. The cheapest cuts cost as much as reuses can be kept.
    """
    # For each cut the least cost of it and all cuts before it, and the cut before it; -1 stands for none.
    costs = {-1: 0}
    before = {}
    for at in range(length + 1):
        cost, before[at] = _cheapest_before(ends, costs, at)
        costs[at] = cost + price
    cuts = []
    cut = before[length]
    while cut != -1:
        cuts.append(cut)
        cut = before[cut]
    return cuts[::-1]


def _cheapest_before(ends, costs, at):
    """The least cost of what lies before a cut at the position, and the last cut before it."""
    uncut = 0
    choices = []
    for cut in range(at - 1, -2, -1):
        if ends.get(cut, at + 1) <= at:
            uncut += 1
        choices.append((costs[cut] + uncut, cut))
    return min(choices)
