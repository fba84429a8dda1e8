"""Tables of numbers: products, spaces of rows, sums that give a wanted row."""

from math import lcm

from wordworth.integers import leading_place, shared_factor
from wordworth.ratios import Ratio


def times(one, other):
    """The product of two tables."""
    columns = list(zip(*other))
    return tuple([_along(row, columns) for row in one])


def row_times(row, table):
    """The row times the table."""
    return _along(row, list(zip(*table)))


def unit(size):
    """The table with 1 where row and column are the same and 0 elsewhere."""
    one, nothing = Ratio(1), Ratio(0)
    return tuple([tuple([one if at == place else nothing for place in range(size)]) for at in range(size)])


def reduced(rows):
    """The table in reduced form that spans the same space as the rows."""
    by_lead = _echelon(rows)
    leads = sorted(by_lead)
    done = {}
    # From the last row up: a row that is done is 0 at all other leads, so
    # what is taken away with it leaves those of the row at work as they are.
    for lead in reversed(leads):
        row = by_lead[lead]
        for later, other in done.items():
            row = _freed(row, other, later)
        done[lead] = row
    return tuple([_with_lead_one(done[lead], lead) for lead in leads])


def rank(rows):
    """The number of rows of the reduced form."""
    return len(_echelon(rows))


def solve(rows, wanted):
    """The numbers by which the independent rows add up to the wanted row, or None."""
    count = len(rows)
    sums = [tuple([row[at] for row in rows]) + (number,) for at, number in enumerate(wanted)]
    found = reduced(tuple(sums))
    # Independent rows have as many leads as there are rows. One more stands
    # in the column of the wanted row and says that 0 should be 1.
    if len(found) > count:
        return None
    return tuple([row[count] for row in found])


def inverse(table):
    """The table whose product with the square table is the unit table, or None."""
    size = len(table)
    found = reduced(tuple([row + beside for row, beside in zip(table, unit(size))]))
    # The last lead is the one furthest to the right. If it stands in the half
    # of the table, each column of that half has a lead.
    if size > 0 and not found[-1][size - 1]:
        return None
    return tuple([row[size:] for row in found])


def sum_of_products(row, column):
    """The sum of the products of the numbers of a row and a column, place by place."""
    # Only the finished sum is brought to lowest terms: that is the slow part.
    top, bottom = 0, 1
    for one, other in zip(row, column):
        more = one.top * other.top
        # A product of 0 may have a long bottom, which must not go into the sum.
        if more:
            below = one.bottom * other.bottom
            common = lcm(bottom, below)
            top = top * (common // bottom) + more * (common // below)
            bottom = common
    return Ratio(top, bottom)


def _along(row, columns):
    """The sums of the products of the row with each of the columns."""
    return tuple([sum_of_products(row, column) for column in columns])


def _echelon(rows):
    """Rows that span the same space, each under the place of its lead: no two share one."""
    by_lead = {}
    for row in rows:
        left = row
        # A later one of the found rows is 0 at the leads of the earlier ones,
        # so what is taken away with it brings nothing back there.
        for lead, other in by_lead.items():
            left = _freed(left, other, lead)
        place = leading_place(left)
        if place is not None:
            by_lead[place] = left
    return by_lead


def _with_lead_one(row, lead):
    return tuple([number.over(row[lead]) for number in row])


def _freed(row, other, lead):
    """The row less so much of the other one that it is 0 at the lead of the other one.

    It may come out multiplied by a number, such that neither its tops nor its
    bottoms share a factor: without this they would become far longer.
    """
    if not row[lead]:
        return row
    part = row[lead].over(other[lead])
    tops, bottoms = [], []
    for mine, its in zip(row, other):
        bottom = lcm(mine.bottom, its.bottom)
        kept = mine.top * (bottom // mine.bottom) * part.bottom
        top = kept - its.top * (bottom // its.bottom) * part.top
        tops.append(top)
        # The bottom of a 0 must not count, and 0 has every factor that the others share.
        bottoms.append(bottom if top else 0)
    above, below = shared_factor(tops), shared_factor(bottoms)
    nothing = Ratio(0)
    return tuple([Ratio(top // above, bottom // below) if top else nothing for top, bottom in zip(tops, bottoms)])
