"""Machines that are made of other machines, of words and of numbers."""

from wordworth.errors import BadStar
from wordworth.machines import Machine, check_same_letters
from wordworth.ratios import Ratio
from wordworth.tables import sum_of_products, unit
from wordworth.words import alphabet, check_word


def plus(one, other):
    """The machine of the sums of the numbers."""
    check_same_letters(one, other)
    corner = _zeros(one.size, other.size)
    steps = [_joined(step, corner, its) for step, its in zip(one.steps, other.steps)]
    return Machine(one.letters, one.start + other.start, steps, one.end + other.end)


def scaled(machine, number):
    """The machine of the numbers times the given one."""
    return Machine(machine.letters, machine.start, machine.steps, _row_scaled(machine.end, number))


def by_places(one, other):
    """The machine of the products of the numbers of each word."""
    check_same_letters(one, other)
    steps = [_crossed(step, its) for step, its in zip(one.steps, other.steps)]
    return _pairs(one, other, steps)


def in_row(one, other):
    """The machine of the sums over all ways to write a word as two words in a row."""
    check_same_letters(one, other)
    steps = []
    for step, its in zip(one.steps, other.steps):
        # What the first machine has just finished begins in the second one.
        corner = _column_by_row(_column(step, one.end), other.start)
        steps.append(_joined(step, corner, its))
    start = one.start + _row_scaled(other.start, sum_of_products(one.start, one.end))
    return Machine(one.letters, start, steps, _zero_row(one.size) + other.end)


def star(machine):
    """The machine of the sums over all ways to cut a word into parts that are not empty."""
    if sum_of_products(machine.start, machine.end):
        raise BadStar()
    steps = []
    for step in machine.steps:
        # What is finished may begin again at once.
        again = _added(step, _column_by_row(_column(step, machine.end), machine.start))
        steps.append(_joined(again, _zeros(machine.size, 1), _zeros(1, 1)))
    # The last state is there for the empty word alone, and no letter leads to it or away from it.
    alone = (Ratio(1),)
    return Machine(machine.letters, machine.start + alone, steps, machine.end + alone)


def mixed(one, other):
    """The machine of the sums over all ways to share out the letters of a word in two words."""
    check_same_letters(one, other)
    stay, its_stay = unit(one.size), unit(other.size)
    steps = [
        _added(_crossed(step, its_stay), _crossed(stay, its)) for step, its in zip(one.steps, other.steps)
    ]
    return _pairs(one, other, steps)


def turned(machine):
    """The machine of the numbers of the words read backwards."""
    steps = [list(zip(*step)) for step in machine.steps]
    return Machine(machine.letters, machine.end, steps, machine.start)


def ahead(machine, word):
    """The machine of the numbers of the words with the given word ahead of them."""
    return Machine(machine.letters, machine.row(word), machine.steps, machine.end)


def after(machine, word):
    """The machine of the numbers of the words with the given word after them."""
    return Machine(machine.letters, machine.start, machine.steps, machine.column(word))


def put(machine, words):
    """The machine of the numbers of the words in which each letter is replaced by a word."""
    steps = [machine.table(word) for word in words]
    return Machine(len(words), machine.start, steps, machine.end)


def single(letters, word, number):
    """The machine that gives the word the number and all others 0."""
    check_word(letters, word)
    size = len(word) + 1
    one, nothing = Ratio(1), Ratio(0)
    steps = []
    for letter in alphabet(letters):
        leads = [sign == letter for sign in word] + [False]
        steps.append([
            [one if leads[at] and place == at + 1 else nothing for place in range(size)] for at in range(size)
        ])
    return Machine(letters, (one,) + _zero_row(size - 1), steps, _zero_row(size - 1) + (number,))


def constant(letters, number):
    """The machine that gives all words the number."""
    return Machine(letters, (Ratio(1),), [unit(1)] * letters, (number,))


def totals(machine):
    """The machine with one letter of the sums over all words of a length."""
    total = _zeros(machine.size, machine.size)
    for step in machine.steps:
        total = _added(total, step)
    return Machine(1, machine.start, (total,), machine.end)


def _pairs(one, other, steps):
    """The machine of these steps whose states are the pairs of the states of two machines."""
    start = _row_crossed(one.start, other.start)
    return Machine(one.letters, start, steps, _row_crossed(one.end, other.end))


def _row_crossed(one, other):
    """The products of each number of the first row with each of the second one."""
    return tuple([mine * its for mine in one for its in other])


def _crossed(one, other):
    """The table of the products of each number of the first table with each of the second one."""
    return tuple([_row_crossed(row, line) for row in one for line in other])


def _column(table, column):
    """The table times the column."""
    return tuple([sum_of_products(row, column) for row in table])


def _column_by_row(column, row):
    """The table of the products of the numbers of the column with those of the row."""
    return tuple([_row_scaled(row, number) for number in column])


def _row_scaled(row, number):
    return tuple([mine * number for mine in row])


def _added(one, other):
    """The sum of two tables of one shape."""
    return tuple([tuple([mine + its for mine, its in zip(row, line)]) for row, line in zip(one, other)])


def _joined(one, corner, other):
    """The square table with one above on the left, the other below on the right, the corner above on the right."""
    above = [row + beside for row, beside in zip(one, corner)]
    return tuple(above + [_zero_row(len(one)) + row for row in other])


def _zero_row(width):
    return (Ratio(0),) * width


def _zeros(height, width):
    return (_zero_row(width),) * height
