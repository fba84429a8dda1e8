"""Spaces of rows that grow."""

from math import gcd, lcm

from wordworth.integers import leading_place, ratios, shared_factor


class Space:
    """The space of all sums, with numbers, of the rows that it has been given.

    Rows are lists of integers here: what a row is multiplied with does not
    matter for a space. They are kept in reduced form but for that.
    """

    def __init__(self):
        self._by_lead = {}

    def rest(self, row):
        """What is left of the row when what the space has of it is taken away: 0 throughout if it has it all.

        It is the row times a number that is not 0, less a row of the space,
        without a factor that all its integers share. So the space with the
        rest has the row, too.
        """
        needed = [(lead, kept) for lead, kept in self._by_lead.items() if row[lead]]
        common = 1
        for lead, kept in needed:
            common = lcm(common, kept[lead])
        left = [common * number for number in row]
        for lead, kept in needed:
            part = row[lead] * (common // kept[lead])
            left = [mine - part * its for mine, its in zip(left, kept)]
        return _without_shared(left)

    def has(self, row):
        """True if the row is in the space, otherwise False."""
        return leading_place(self.rest(row)) is None

    def take_in(self, row):
        """Makes the space the least one that has the row, too."""
        left = self.rest(row)
        place = leading_place(left)
        if place is None:
            return
        if left[place] < 0:
            left = [-number for number in left]
        self._by_lead = {lead: _freed(kept, left, place) for lead, kept in self._by_lead.items()}
        self._by_lead[place] = left

    def rows(self):
        """The list of the rows that are kept, ascending by their leads."""
        return [self._by_lead[lead] for lead in sorted(self._by_lead)]

    def reduced(self):
        """The table in reduced form that spans the space."""
        return tuple([ratios(self._by_lead[lead], self._by_lead[lead][lead]) for lead in sorted(self._by_lead)])


def _freed(row, other, place):
    """The row less so much of the other one that it is 0 at the place, multiplied so that it is whole."""
    if row[place] == 0:
        return row
    shared = gcd(row[place], other[place])
    keep, take = other[place] // shared, row[place] // shared
    return _without_shared([keep * mine - take * its for mine, its in zip(row, other)])


def _without_shared(row):
    """The row over the greatest factor that its integers share."""
    shared = shared_factor(row)
    return [number // shared for number in row] if shared > 1 else row
