"""The errors that the program raises."""


class WordError(ValueError):
    """The base class of all errors that the program raises."""

    def __init__(self, what=None):
        self.what = what


class BadNumber(WordError):
    """A number that cannot be taken, such as a bottom of 0."""


class BadMachine(WordError):
    """The parts of a machine do not fit, or two machines do not fit each other."""


class BadWord(WordError):
    """A word with a character that is not a letter of the alphabet."""


class BadStar(WordError):
    """A star over something that gives the empty word a number other than 0."""


class BadText(WordError):
    """A string that is not the text of a sum of words."""


class BadPaper(WordError):
    """A paper that does not show what it is handed in for."""


class BadDeed(WordError):
    """A deed that is not possible at the moment."""


class TooMany(WordError):
    """More states than the document allows."""


class Unknown(WordError):
    """A name that is not there."""


class Taken(WordError):
    """A name that is there already."""
