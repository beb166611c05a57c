"""Seats: a row for each of many pairs of places, or the pairs that are too many.

The pairs take their seats one by one. A seat is a tuple (row, place), and
`held` is a dict from the taken seats to the numbers of the pairs that have them.
"""


def seated(pairs):
    """Tell ("yes", a row for each pair) or ("no", numbers of pairs that have too few places)."""
    held = {}
    for number, pair in enumerate(pairs):
        lower = _way(pairs, held, (0, pair[0]))
        upper = _way(pairs, held, (1, pair[1]))
        if lower[-1] not in held:
            _take(held, lower, number)
        elif upper[-1] not in held:
            _take(held, upper, number)
        else:
            return ("no", _crowd(held, lower + upper, number))
    return ("yes", _rows(held, len(pairs)))


def _way(pairs, held, seat):
    """List the seats from one on, each the other seat of the pair that has the one before it."""
    way = [seat]
    seen = {seat}
    while way[-1] in held:
        other = _other(pairs, held, way[-1])
        if other in seen:
            return way
        seen.add(other)
        way.append(other)
    return way


def _other(pairs, held, seat):
    """Tell the other seat of the pair that has a seat."""
    pair = pairs[held[seat]]
    row = 1 - seat[0]
    return (row, pair[row])


def _take(held, way, number):
    """Move the pairs on a way one seat on, the last one first, and give its first seat to a pair."""
    for at in range(len(way) - 1, 0, -1):
        held[way[at]] = held[way[at - 1]]
    held[way[0]] = number


def _crowd(held, seats, number):
    """List the numbers of a pair that found no seat and of the pairs that have the seats of its ways."""
    # Both ways end in a circle, so all places of these pairs are among the
    # seats, each seat has another one of the pairs, and one pair is over.
    return sorted(set([number] + [held[seat] for seat in seats]))


def _rows(held, many):
    """List the row in which each of many pairs has its seat."""
    rows = [0] * many
    for seat, number in held.items():
        rows[number] = seat[0]
    return rows
