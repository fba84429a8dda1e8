"""Rows of integers, and rows of numbers as integers above one common bottom.

Long products are worked out in this way: a sum of many fractions is brought
to lowest terms only once, at its end.
"""

from math import gcd, lcm

from wordworth.ratios import Ratio


def common_bottom(row):
    """The least bottom that all numbers of the row can be given."""
    bottom = 1
    for number in row:
        bottom = lcm(bottom, number.bottom)
    return bottom


def tops_above(row, bottom):
    """The list of the tops of the numbers when they are given this bottom."""
    return [number.top * (bottom // number.bottom) for number in row]


def row_above(row):
    """The pair of the tops and the bottom by which the row is integers above one bottom."""
    bottom = common_bottom(row)
    return tops_above(row, bottom), bottom


def table_above(table):
    """The pair of the rows of tops and the one bottom for the whole table."""
    bottom = 1
    for row in table:
        bottom = lcm(bottom, common_bottom(row))
    return [tops_above(row, bottom) for row in table], bottom


def ratios(tops, bottom):
    """The row of the numbers with these tops above the bottom."""
    return tuple([Ratio(top, bottom) for top in tops])


def whole_product(one, other):
    """The sum of the products of two rows of integers, place by place."""
    return sum([mine * its for mine, its in zip(one, other)])


def whole_row_times(row, square):
    """The row of integers times the square table of integers."""
    sums = [0] * len(square)
    for number, line in zip(row, square):
        # Rows of machines are often 0 nearly throughout.
        if number:
            sums = [done + number * more for done, more in zip(sums, line)]
    return sums


def shared_factor(row):
    """The greatest factor that the integers share, or 0 if all of them are 0."""
    found = 0
    for integer in row:
        found = gcd(found, integer)
    return found


def leading_place(row):
    """The place of the first integer or number that is not 0, or None if there is none."""
    for at, number in enumerate(row):
        if number:
            return at
    return None
