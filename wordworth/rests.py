"""The remainders of whole numbers, by a plain machine whose states are numbered."""

from wordworth.errors import BadNumber, TooMany
from wordworth.integers import row_above, table_above, whole_product, whole_row_times
from wordworth.lattices import basic, pieces
from wordworth.wholes import whole, whole_machine

MOST_STATES = 300


def rests(machine, modulus):
    """The moves and the remainders of the plain machine of the rests."""
    found, told = whole(machine)
    if found == "broken":
        raise BadNumber(told)
    small = whole_machine(machine)
    # All numbers of the whole machine are whole: the bottoms are 1.
    start, end = row_above(small.start)[0], row_above(small.end)[0]
    steps = [table_above(step)[0] for step in small.steps]
    moves, rows = _states(start, steps, _views(steps, end, modulus), modulus)
    return moves, tuple(_products(rows, end, modulus))


def _views(steps, end, modulus):
    """Columns that span, with integers, the columns of all words and all columns of multiples of the modulus."""
    size = len(end)
    basis = basic([[modulus if at == place else 0 for place in range(size)] for at in range(size)])
    waiting = [end]
    while waiting:
        column = waiting.pop()
        if pieces(basis, column) is None:
            basis = basic(list(basis) + [column])
            # Multiples of the modulus are there already, so the columns may be kept short.
            waiting.extend([_products(step, column, modulus) for step in steps])
    return basis


def _states(start, steps, views, modulus):
    """The moves, and for each state the row of the first word of its class."""
    rows = [start]
    # Words have the same rests if their rows look the same in all views.
    known = {tuple(_products(views, start, modulus)): 0}
    moves = []
    while len(moves) < len(rows):
        source = rows[len(moves)]
        targets = []
        for step in steps:
            row = [integer % modulus for integer in whole_row_times(source, step)]
            looks = tuple(_products(views, row, modulus))
            if looks not in known:
                if len(rows) == MOST_STATES:
                    raise TooMany()
                known[looks] = len(rows)
                rows.append(row)
            targets.append(known[looks])
        moves.append(tuple(targets))
    return tuple(moves), rows


def _products(rows, column, modulus):
    """The remainders of the products of each row with the column."""
    return [whole_product(row, column) % modulus for row in rows]
