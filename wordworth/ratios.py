"""Exact fractions."""

from math import gcd

from wordworth.errors import BadNumber


class Ratio:
    """A fraction of integers, in lowest terms, with a bottom above 0."""

    def __init__(self, top, bottom=1):
        if bottom == 0:
            raise BadNumber()
        shared = gcd(top, bottom)
        # Dividing both by a number below 0 brings a negative bottom above 0.
        by = shared if bottom > 0 else -shared
        self.top = top // by
        self.bottom = bottom // by

    def __add__(self, other):
        top = self.top * other.bottom + other.top * self.bottom
        return Ratio(top, self.bottom * other.bottom)

    def __sub__(self, other):
        top = self.top * other.bottom - other.top * self.bottom
        return Ratio(top, self.bottom * other.bottom)

    def __mul__(self, other):
        return Ratio(self.top * other.top, self.bottom * other.bottom)

    def __neg__(self):
        return Ratio(-self.top, self.bottom)

    def __eq__(self, other):
        return isinstance(other, Ratio) and self.top == other.top and self.bottom == other.bottom

    def __bool__(self):
        return bool(self.top)

    def is_less(self, other):
        """True if this number is less than the other one, otherwise False."""
        return self.top * other.bottom < other.top * self.bottom

    def over(self, other):
        """The quotient."""
        # If the other number is 0, its top is the bottom here, and Ratio refuses it.
        return Ratio(self.top * other.bottom, self.bottom * other.top)

    @property
    def is_whole(self):
        """True if the bottom is 1, otherwise False."""
        return self.bottom == 1

    def text(self):
        """The number as it is written in a sum of words."""
        if self.is_whole:
            return f"{self.top}"
        return f"{self.top}/{self.bottom}"
