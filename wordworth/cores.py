"""Machines with no more states than they need, and the words that reach all of them."""

from wordworth.integers import leading_place, row_above, table_above, whole_row_times
from wordworth.machines import Machine
from wordworth.mixing import turned
from wordworth.spaces import Space
from wordworth.tables import inverse, row_times, sum_of_products, times
from wordworth.words import alphabet


def core(machine):
    """A machine with the same numbers and as many states as the rank."""
    # First without what no word reaches, then without what no word sees: the
    # words still reach all that is left.
    return turned(_reached(turned(_reached(machine))))


def rows_from(small):
    """The row words of a machine with as many states as its rank, ascending."""
    return _reach(small, False)[0]


def columns_from(small):
    """The column words of a machine with as many states as its rank, ascending."""
    return _reach(turned(small), True)[0]


def sight(machine):
    """The machine of the rank's size by which the row of p has the numbers of p followed by each column word."""
    small = core(machine)
    columns = tuple([small.column(word) for word in columns_from(small)])
    there = tuple(zip(*columns))
    return carried(small, there, inverse(there))


def carried(machine, there, back):
    """The machine with the same numbers whose rows are those of the machine times a table.

    The second table is the inverse of the first one.
    """
    steps = [times(times(back, step), there) for step in machine.steps]
    end = tuple([sum_of_products(row, machine.end) for row in back])
    return Machine(machine.letters, row_times(machine.start, there), steps, end)


def spread(letters, first, follow, ahead):
    """The words whose rows no rows of earlier words add up to, ascending, and the space of all rows.

    A row is a list of integers and may be multiplied by any number but 0.
    `first` is that of the empty word, `follow(row, at)` that of a word to
    which the letter with the index `at` is added: ahead of it if `ahead`,
    else behind it.
    """
    space = Space()
    words = []
    waiting = [("", first)]
    while waiting:
        kept = []
        for word, row in waiting:
            # What is left goes on in place of the row: what it lacks comes
            # from earlier words, and stays so with a further letter.
            left = space.rest(row)
            if any(left):
                space.take_in(left)
                kept.append((word, left))
        words.extend([word for word, _ in kept])
        waiting = _longer(kept, alphabet(letters), follow, ahead)
    return words, space


def _longer(kept, known, follow, ahead):
    """The words with one more letter and their rows, ascending if the kept ones are."""
    if ahead:
        return [(letter + word, follow(row, at)) for at, letter in enumerate(known) for word, row in kept]
    return [(word + letter, follow(row, at)) for word, row in kept for at, letter in enumerate(known)]


def _reach(machine, ahead):
    """The words whose rows by the machine are not made of those of earlier words, and the space of all rows."""
    steps = [table_above(step)[0] for step in machine.steps]
    first = row_above(machine.start)[0]
    return spread(machine.letters, first, lambda row, at: whole_row_times(row, steps[at]), ahead)


def _reached(machine):
    """A machine with the same numbers whose states are the rows of the least table that spans all rows of words."""
    lines = _reach(machine, False)[1].reduced()
    if len(lines) == machine.size:
        return machine
    # A row of the space has at the leads the numbers by which the lines add up to it.
    leads = [leading_place(line) for line in lines]
    steps = [[_at_places(row, leads) for row in times(lines, step)] for step in machine.steps]
    end = [sum_of_products(line, machine.end) for line in lines]
    return Machine(machine.letters, _at_places(machine.start, leads), steps, end)


def _at_places(row, places):
    return [row[at] for at in places]
