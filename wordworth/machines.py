"""Machines, which give every word over an alphabet a number."""

from wordworth.errors import BadMachine
from wordworth.integers import (
    ratios, row_above, row_through, table_above, whole_column_times, whole_product, whole_row_times,
)
from wordworth.ratios import Ratio
from wordworth.words import alphabet, check_word


class Machine:
    """A start, a step for each letter, and an end."""

    def __init__(self, letters, start, steps, end):
        self.letters = letters
        self.start = tuple(start)
        self.steps = tuple([tuple([tuple(row) for row in step]) for step in steps])
        self.end = tuple(end)
        if not self._fits():
            raise BadMachine()
        # The steps as integers above one bottom, each made when a word first needs it.
        self._above = [None] * letters

    @property
    def size(self):
        """The count of the states."""
        return len(self.start)

    def number(self, word):
        """The number of the word."""
        tops, bottom = self._row_above(word)
        ends, below = row_above(self.end)
        return Ratio(whole_product(tops, ends), bottom * below)

    def __call__(self, word):
        return self.number(word)

    def row(self, word):
        """The start times the table of the word."""
        tops, bottom = self._row_above(word)
        return ratios(tops, bottom)

    def column(self, word):
        """The table of the word times the end, as a tuple."""
        check_word(self.letters, word)
        tops, bottom = row_above(self.end)
        steps = [self._step_above(letter) for letter in reversed(word)]
        tops, bottom = row_through(tops, bottom, steps, whole_column_times)
        return ratios(tops, bottom)

    def table(self, word):
        """The product of the steps of the letters of the word."""
        check_word(self.letters, word)
        places = range(self.size)
        lines, bottom = [[int(at == place) for place in places] for at in places], 1
        for letter in word:
            rows, below = self._step_above(letter)
            lines = [whole_row_times(line, rows) for line in lines]
            bottom = bottom * below
        return tuple([ratios(line, bottom) for line in lines])

    def picture(self):
        """The parts of the machine, with the texts of the numbers in their places."""
        steps = tuple([tuple([_texts(row) for row in step]) for step in self.steps])
        return self.letters, _texts(self.start), steps, _texts(self.end)

    def _fits(self):
        size = len(self.start)
        if not 1 <= self.letters <= 4 or len(self.end) != size or len(self.steps) != self.letters:
            return False
        return all([len(step) == size and all([len(row) == size for row in step]) for step in self.steps])

    def _row_above(self, word):
        """The row of the word as integers above one bottom."""
        check_word(self.letters, word)
        tops, bottom = row_above(self.start)
        steps = [self._step_above(letter) for letter in word]
        return row_through(tops, bottom, steps, whole_row_times)

    def _step_above(self, letter):
        at = alphabet(self.letters).index(letter)
        if self._above[at] is None:
            self._above[at] = table_above(self.steps[at])
        return self._above[at]


def check_same_letters(one, other):
    """Raises BadMachine if the alphabets of the two machines differ."""
    if one.letters != other.letters:
        raise BadMachine()


def _texts(row):
    return tuple([number.text() for number in row])
