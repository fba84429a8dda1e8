"""Letters, alphabets, words and their order."""

from wordworth.errors import BadWord

LETTERS = "abcd"


def comes_before(one, other):
    """True if the first word is earlier than the second one, otherwise False."""
    if len(one) != len(other):
        return len(one) < len(other)
    return one < other


def words_of(letters, length):
    """The list of all words of this length over the alphabet, ascending."""
    words = [""]
    for _ in range(length):
        words = [word + letter for word in words for letter in alphabet(letters)]
    return words


def alphabet(letters):
    """The string of the first letters, so many as told."""
    return LETTERS[:letters]


def check_word(letters, word):
    """Raises BadWord(word) if a character of the word is not a letter of the alphabet."""
    known = alphabet(letters)
    for sign in word:
        if sign not in known:
            raise BadWord(word)
