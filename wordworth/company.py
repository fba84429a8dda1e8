"""Words, and mixes of words, that are alike in every company."""

from wordworth.cores import columns_from, core, rows_from, spread
from wordworth.integers import table_above, whole_row_times
from wordworth.ratios import Ratio
from wordworth.tables import solve, sum_of_products, times
from wordworth.words import alphabet, check_word


def nothing(machine, mix):
    """("nothing",) if the mix comes to nothing, else ("company", u, v) with its company."""
    for _, word in mix:
        check_word(machine.letters, word)
    return _company(core(machine), mix)


def basis_words(machine):
    """The list of the words of the basis, ascending."""
    return _basis(core(machine))


def coordinates(machine, word):
    """The numbers by which the words of the basis add up to the word."""
    check_word(machine.letters, word)
    small = core(machine)
    return _solved(_basis_rows(small), small.table(word))


def product(machine, one, other):
    """The coordinates of the words of the first coordinates followed by those of the second ones."""
    small = core(machine)
    rows = _basis_rows(small)
    return _solved(rows, times(_mixed_table(small, rows, one), _mixed_table(small, rows, other)))


def by_counts(machine):
    """("counts",) if the numbers hang on counts alone, else ("words", y, z) with two words that show it."""
    small = core(machine)
    known = alphabet(machine.letters)
    for at, letter in enumerate(known):
        for later in known[at + 1:]:
            found = _company(small, _difference(letter + later, later + letter))
            if found[0] == "company":
                _, before, behind = found
                return "words", before + letter + later + behind, before + later + letter + behind
    return ("counts",)


def idle(machine):
    """The string of the idle letters, ascending."""
    small = core(machine)
    found = [letter for letter in alphabet(machine.letters) if _company(small, _difference(letter, ""))[0] == "nothing"]
    return "".join(found)


def _difference(one, other):
    """The mix that comes to nothing if the two words are alike in every company."""
    return (Ratio(1), one), (Ratio(-1), other)


def _company(small, mix):
    """The answer of `nothing` for a machine with as many states as its rank."""
    numbers = [number for number, _ in mix]
    # The first word with a company is no sum of earlier ones: it is a row
    # word, and the word behind it is a column word.
    for before in rows_from(small):
        rows = [small.row(before + word) for _, word in mix]
        left = [sum_of_products(numbers, column) for column in zip(*rows)]
        if any(left):
            return "company", before, _first_seeing(small, left)
    return ("nothing",)


def _first_seeing(small, row):
    """The first word whose column gives the row, which is not 0, a number other than 0."""
    for word in columns_from(small):
        if sum_of_products(row, small.column(word)):
            return word
    return None


def _basis(small):
    """The basis by a machine with as many states as its rank."""
    steps = [table_above(step)[0] for step in small.steps]
    first = [int(at == place) for at in range(small.size) for place in range(small.size)]
    return spread(small.letters, first, lambda row, at: _rows_led(row, steps[at]), False)[0]


def _rows_led(row, step):
    """The rows of a table, one behind the other, each of them times the step."""
    size = len(step)
    found = []
    for at in range(size):
        found.extend(whole_row_times(row[at * size:(at + 1) * size], step))
    return found


def _basis_rows(small):
    """The tables of the words of the basis, each as one row."""
    return tuple([_flat(small.table(word)) for word in _basis(small)])


def _flat(table):
    """The rows of the table, one behind the other."""
    return tuple([number for row in table for number in row])


def _mixed_table(small, rows, numbers):
    """The sum of the tables of the basis, each times its number."""
    size = small.size
    sums = [sum_of_products(numbers, column) for column in zip(*rows)]
    return tuple([tuple(sums[at * size:(at + 1) * size]) for at in range(size)])


def _solved(rows, table):
    """The numbers by which the rows of the basis add up to the table."""
    return solve(rows, _flat(table))
