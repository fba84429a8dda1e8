"""Rows of integers, and rows of numbers as integers above one common bottom.

Long products are worked out in this way: a sum of many fractions is brought
to lowest terms only once, at its end.
"""

from math import gcd, lcm

from wordworth.ratios import Ratio

# Bottoms of up to so many bits are left as they are.
SHORT = 2000


def common_bottom(row):
    """The least bottom that all numbers of the row can be given."""
    bottom = 1
    for number in row:
        bottom = lcm(bottom, number.bottom)
    return bottom


def tops_above(row, bottom):
    """The list of the tops of the numbers when they are given this bottom."""
    return [number.top * (bottom // number.bottom) for number in row]


def row_above(row):
    """The pair of the tops and the bottom by which the row is integers above one bottom."""
    bottom = common_bottom(row)
    return tops_above(row, bottom), bottom


def table_above(table):
    """The pair of the rows of tops and the one bottom for the whole table."""
    bottom = 1
    for row in table:
        bottom = lcm(bottom, common_bottom(row))
    return [tops_above(row, bottom) for row in table], bottom


def ratios(tops, bottom):
    """The row of the numbers with these tops above the bottom."""
    return tuple([Ratio(top, bottom) for top in tops])


def whole_product(one, other):
    """The sum of the products of two rows of integers, place by place."""
    return sum([mine * its for mine, its in zip(one, other)])


def whole_row_times(row, square):
    """The row of integers times the square table of integers."""
    sums = [0] * len(square)
    for number, line in zip(row, square):
        # Rows of machines are often 0 nearly throughout.
        if number:
            sums = [done + number * more for done, more in zip(sums, line)]
    return sums


def whole_column_times(column, square):
    """The square table of integers times the column, as a list."""
    return [whole_product(line, column) for line in square]


def row_led(tops, bottom, step):
    """The row of the tops above the bottom times the step, as tops above the least bottom.

    The step is a pair as table_above makes it.
    """
    lines, below = step
    return shortened(whole_row_times(tops, lines), bottom * below)


def row_through(tops, bottom, steps, lead):
    """The row of the tops above the bottom led through the steps one by one, as tops above some bottom.

    The steps are pairs as table_above makes them; `lead(tops, lines)` leads through the lines of one.
    """
    longest = SHORT
    for lines, below in steps:
        tops, bottom = lead(tops, lines), bottom * below
        # Often the numbers of a row are short although their steps have long
        # bottoms. To look for it takes long, so that must not be done at each step.
        if bottom.bit_length() > longest:
            tops, bottom = shortened(tops, bottom)
            longest = max(SHORT, 2 * bottom.bit_length())
    return tops, bottom


def shortened(tops, bottom):
    """The same row as tops above the least bottom."""
    # With the bottom ahead, what is compared with long tops is short soon.
    shared = shared_factor([bottom] + tops)
    return ([top // shared for top in tops], bottom // shared) if shared > 1 else (tops, bottom)


def shared_factor(row):
    """The greatest factor that the integers share, or 0 if all of them are 0."""
    found = 0
    for integer in row:
        found = gcd(found, integer)
    return found


def leading_place(row):
    """The place of the first integer or number that is not 0, or None if there is none."""
    for at, number in enumerate(row):
        if number:
            return at
    return None
