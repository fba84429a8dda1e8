"""Whether two machines give all words the same numbers, and papers that show it."""

from wordworth.integers import row_above, table_above, whole_product, whole_row_times
from wordworth.machines import check_same_letters
from wordworth.mixing import plus, scaled
from wordworth.ratios import Ratio
from wordworth.spaces import Space
from wordworth.words import alphabet


def compare(one, other):
    """("same", paper) if the machines are alike, else ("word", w) with the first word that parts them."""
    check_same_letters(one, other)
    start, steps, end = _apart(one, other)
    letters = alphabet(one.letters)
    space = Space()
    waiting = [("", start)]
    while waiting:
        longer = []
        for word, row in waiting:
            # If the row is made of rows of earlier words, so are those of all
            # words that go on from here: none of them can be the first one.
            left = space.rest(row)
            if not any(left):
                continue
            if whole_product(left, end) != 0:
                return "word", word
            space.take_in(left)
            longer.extend([(word + letter, whole_row_times(left, step)) for letter, step in zip(letters, steps)])
        waiting = longer
    return "same", space.reduced()


def is_same_paper(one, other, paper):
    """True if the tuple of rows is a right paper that the machines are alike, otherwise False."""
    start, steps, end = _apart(one, other)
    rows = [row_above(row)[0] for row in paper]
    if any([len(row) != len(start) or whole_product(row, end) != 0 for row in rows]):
        return False
    space = Space()
    for row in rows:
        space.take_in(row)
    # What holds for the rows that the space keeps holds for all rows of the paper.
    return space.has(start) and all([
        all([space.has(whole_row_times(row, step)) for step in steps]) for row in space.rows()
    ])


def _apart(one, other):
    """The start, the steps and the end, each times some integer, of the machine of the differences.

    Its rows are those of the first machine, each followed by that of the
    second one: plus sets the states side by side, and scaled changes the end alone.
    """
    machine = plus(one, scaled(other, Ratio(-1)))
    return row_above(machine.start)[0], [table_above(step)[0] for step in machine.steps], row_above(machine.end)[0]
