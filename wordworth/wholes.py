"""Machines whose numbers are all whole, and papers that show it."""

from math import lcm

from wordworth.cores import sight
from wordworth.integers import row_above, row_led, table_above
from wordworth.lattices import basic, pieces
from wordworth.machines import Machine
from wordworth.ratios import Ratio
from wordworth.words import alphabet, check_word


def whole(machine):
    """("whole", paper) with the lattice words, or ("broken", w) with the first word whose number is not whole."""
    broken, words, _ = _explored(sight(machine))
    return ("whole", tuple(words)) if broken is None else ("broken", broken)


def is_whole_paper(machine, words):
    """True if the tuple of words is a right paper that all numbers are whole, otherwise False."""
    for word in words:
        check_word(machine.letters, word)
    seen = sight(machine)
    if "" not in words:
        return seen.size == 0 and len(words) == 0
    rows = []
    # Short words first: a number that is not whole is found there with the least work.
    for word in sorted({word: True for word in words}, key=len):
        row = seen.row(word)
        # The row has the numbers of the word followed by others: a right
        # paper shows that these are whole, too.
        if not all([number.is_whole for number in row]):
            return False
        rows.append([number.top for number in row])
    basis = basic(rows)
    steps = [table_above(step) for step in seen.steps]
    # What holds for the rows of the basis holds for all rows of the lattice.
    return all([all([_pieces_led(basis, row, step) is not None for step in steps]) for row in basis])


def whole_machine(machine):
    """The whole machine, or None if some number is not whole."""
    seen = sight(machine)
    broken, _, basis = _explored(seen)
    if broken is not None:
        return None
    start = _ratio_row(pieces(basis, row_above(seen.start)[0]))
    steps = []
    for step in seen.steps:
        above = table_above(step)
        steps.append([_ratio_row(_pieces_led(basis, row, above)) for row in basis])
    # The empty word is the first column word, so each row begins with its own number.
    return Machine(machine.letters, start, steps, _ratio_row([row[0] for row in basis]))


def _explored(seen):
    """The first word with a number that is not whole, or None, the lattice words before it, and their basis.

    The machine is one of `sight`, so the first number of a row is that of its word.
    """
    steps = [table_above(step) for step in seen.steps]
    words, basis, below = [], (), 1
    # The first word with a number that is not whole is a lattice word: else
    # it would be made of earlier ones, with integers. So are its beginnings.
    waiting = [("", row_above(seen.start))] if seen.size else []
    while waiting:
        longer = []
        for word, (tops, bottom) in waiting:
            if tops[0] % bottom != 0:
                return word, words, basis
            if not _is_in(basis, below, tops, bottom):
                basis, below = _taken_in(basis, below, tops, bottom)
                words.append(word)
                led = [row_led(tops, bottom, step) for step in steps]
                longer.extend([(word + letter, row) for letter, row in zip(alphabet(seen.letters), led)])
        waiting = longer
    return None, words, basis


def _is_in(basis, below, tops, bottom):
    """True if the row of the tops above the bottom is in the lattice of the basis above `below`."""
    # In lowest terms a row of the lattice has no bottom that is not a factor of `below`.
    if below % bottom != 0:
        return False
    return pieces(basis, [top * (below // bottom) for top in tops]) is not None


def _taken_in(basis, below, tops, bottom):
    """The basis of the lattice with one more row, and the bottom that it then stands above."""
    common = lcm(below, bottom)
    rows = [[integer * (common // below) for integer in row] for row in basis]
    return basic(rows + [[top * (common // bottom) for top in tops]]), common


def _pieces_led(basis, row, step):
    """The integers by which the basis adds up to its row times the step, or None."""
    tops, bottom = row_led(row, 1, step)
    return pieces(basis, tops) if bottom == 1 else None


def _ratio_row(integers):
    return tuple([Ratio(integer) for integer in integers])
