"""Whether a machine gives only finitely many words a number other than 0."""

from wordworth.cores import core
from wordworth.integers import row_above, table_above, whole_product, whole_row_times
from wordworth.spaces import Space
from wordworth.tables import sum_of_products
from wordworth.words import alphabet


def finite(machine):
    """("finite", rows) with all words whose numbers are not 0, or ("endless", w) with the first long one of them."""
    small = core(machine)
    word = _first_long_word(small)
    return ("finite", _short_words(small)) if word is None else ("endless", word)


def _first_long_word(small):
    """The first word with a number other than 0 and no fewer letters than there are states, or None."""
    letters = alphabet(small.letters)
    steps = [table_above(step)[0] for step in small.steps]
    end = row_above(small.end)[0]
    waiting = [("", row_above(small.start)[0])]
    # If there is such a word, there is one of fewer than twice as many letters.
    for length in range(2 * small.size):
        space = Space()
        kept = []
        for word, row in waiting:
            # A row that is made of those of earlier words as long has nothing
            # to add: one of them goes on to a number other than 0 whenever it does.
            left = space.rest(row)
            if any(left):
                if length >= small.size and whole_product(left, end) != 0:
                    return word
                space.take_in(left)
                kept.append((word, left))
        waiting = [
            (word + letter, whole_row_times(left, step)) for word, left in kept for letter, step in zip(letters, steps)
        ]
    return None


def _short_words(small):
    """The pairs of all words with fewer letters than states whose number is not 0, and their numbers, ascending."""
    found = []
    waiting = [""]
    for _ in range(small.size):
        longer = []
        for word in waiting:
            row = small.row(word)
            # With a row of 0 throughout, all words that go on from here have the number 0.
            if any(row):
                number = sum_of_products(row, small.end)
                if number:
                    found.append((word, number))
                longer.extend([word + letter for letter in alphabet(small.letters)])
        waiting = longer
    return tuple(found)
