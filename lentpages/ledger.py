"""Ledgers: whether a store gave back what was left on its places."""


def bags_agree(places, rows, sweep):
    """Whether what is found and what is left agree as a whole, and each row finds what was left before it."""
    left = [(place, 0, 0) for place in range(places)]
    found = list(sweep)
    for time, (place, found_stamp, found_time, left_stamp) in enumerate(rows, start=1):
        if found_time >= time:
            return False
        left.append((place, left_stamp, time))
        found.append((place, found_stamp, found_time))
    return sorted(left) == sorted(found)


def first_lie(places, rows, sweep):
    """The position of the first row that does not find what was last left, len(rows) for the sweep, or None."""
    remembered = {place: (0, 0) for place in range(places)}
    for at, (place, found_stamp, found_time, left_stamp) in enumerate(rows):
        if remembered.get(place) != (found_stamp, found_time):
            return at
        remembered[place] = (left_stamp, at + 1)
    # The order of the sweep is left aside here, as it is in bags_agree.
    told = sorted([(place, (stamp, time)) for place, stamp, time in sweep])
    return None if told == sorted(remembered.items()) else len(rows)
