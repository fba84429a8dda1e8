"""Lattices: all sums of whole rows with integers."""

from wordworth.integers import leading_place


def basic(rows):
    """The tuple in basic form that spans the same lattice as the whole rows."""
    by_lead = {}
    for row in rows:
        _take_in(by_lead, list(row))
        # Settled after each row: left alone, the integers would grow with
        # every row that is still to come.
        for lead in sorted(by_lead, reverse=True):
            by_lead[lead] = _settled(by_lead[lead], by_lead, lead)
    return tuple([tuple(by_lead[lead]) for lead in sorted(by_lead)])


def pieces(basis, row):
    """The integers by which the rows of the basis add up to the whole row, or None."""
    found = []
    left = row
    for line in basis:
        lead = leading_place(line)
        count = left[lead] // line[lead]
        left = _less(left, count, line)
        found.append(count)
    # An integer that was not a multiple of the leading one is still there, in part.
    return tuple(found) if leading_place(left) is None else None


def _take_in(by_lead, row):
    """Makes the rows, each under the place of its lead, span the row too."""
    left = row
    place = leading_place(left)
    while place is not None:
        if place not in by_lead:
            by_lead[place] = left if left[place] > 0 else [-integer for integer in left]
            return
        by_lead[place], left = _parted(by_lead[place], left, place)
        left = _settled(left, by_lead, place)
        place = leading_place(left)


def _parted(one, other, place):
    """Two rows that span the same lattice, of which the second one is 0 at the place."""
    high, low = one[place], other[place]
    if low % high == 0:
        return one, _less(other, low // high, one)
    shared, part, rest = _bezout(high, low)
    first = [part * mine + rest * its for mine, its in zip(one, other)]
    high, low = high // shared, low // shared
    return first, [high * its - low * mine for mine, its in zip(one, other)]


def _settled(row, by_lead, place):
    """The row less such multiples of the rows with later leads that it is small at their leads."""
    left = row
    for lead in sorted(by_lead):
        if lead > place:
            other = by_lead[lead]
            left = _less(left, left[lead] // other[lead], other)
    return left


def _less(row, count, other):
    """The row less so many times the other one."""
    if count == 0:
        return row
    return [mine - count * its for mine, its in zip(row, other)]


def _bezout(one, other):
    """The greatest factor that both share, above 0, and the integers by which they add up to it."""
    left, part, rest = one, 1, 0
    after, its_part, its_rest = other, 0, 1
    while after != 0:
        count = left // after
        left, after = after, left - count * after
        part, its_part = its_part, part - count * its_part
        rest, its_rest = its_rest, rest - count * its_rest
    if left < 0:
        return -left, -part, -rest
    return left, part, rest
