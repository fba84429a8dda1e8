"""The least machine, the words that it is made of, and the tables that carry one machine into another."""

from wordworth.alike import compare
from wordworth.cores import carried, columns_from, core, rows_from
from wordworth.integers import row_above, whole_product
from wordworth.machines import check_same_letters
from wordworth.spaces import Space
from wordworth.tables import inverse, sum_of_products


def row_words(machine):
    """The list of the row words, ascending."""
    return rows_from(core(machine))


def column_words(machine):
    """The list of the column words, ascending."""
    return columns_from(core(machine))


def least(machine):
    """The machine of the rank's size by which the row of each row word is a row of the unit table."""
    small = core(machine)
    rows = tuple([small.row(word) for word in rows_from(small)])
    return carried(small, inverse(rows), rows)


def is_corner(machine, rows, columns):
    """True if the table of the numbers of the words of rows followed by those of columns has an inverse."""
    if len(rows) != len(columns):
        return False
    # Without their bottoms: what a row or a column is multiplied with does not matter here.
    heads = [row_above(machine.row(word))[0] for word in rows]
    tails = [row_above(machine.column(word))[0] for word in columns]
    space = Space()
    for head in heads:
        space.take_in([whole_product(head, tail) for tail in tails])
    return len(space.rows()) == len(rows)


def carry(one, other):
    """The table that carries the first machine into the second one, or None."""
    check_same_letters(one, other)
    if one.size != other.size or core(one).size != one.size:
        return None
    found, paper = compare(one, other)
    if found != "same":
        return None
    # The rows of the first machine span all rows of its length. So the left
    # half of the paper is the unit table, and the right half is what each
    # row of it becomes.
    return tuple([line[one.size:] for line in paper])


def is_carry(one, other, table):
    """True if the table carries the first machine into the second one, otherwise False."""
    if len(table) != one.size or any([len(line) != other.size for line in table]):
        return False
    if _row_led(one.start, table, other.size) != other.start:
        return False
    if tuple([sum_of_products(line, other.end) for line in table]) != one.end:
        return False
    return all([_is_same_way(step, its, table, other.size) for step, its in zip(one.steps, other.steps)])


def _is_same_way(step, its, table, width):
    """True if the step times the table is the table times the step of the other machine."""
    return all([
        _row_led(row, table, width) == _row_led(line, its, width) for row, line in zip(step, table)
    ])


def _row_led(row, table, width):
    """The row times the table of this width, which may be without rows."""
    return tuple([sum_of_products(row, [line[at] for line in table]) for at in range(width)])
