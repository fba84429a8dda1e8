"""A learner that names a machine that it does not know."""

from wordworth.errors import BadDeed
from wordworth.integers import row_above, row_led, table_above, whole_product, whole_row_times
from wordworth.machines import Machine
from wordworth.tables import inverse, row_times, sum_of_products, times
from wordworth.words import alphabet, check_word

# Numbers with other remainders are not the same. A large prime tells most of them apart.
MODULUS = 170141183460469231731687303715884105727


class Learner:
    """Asks for the numbers of words, and proposes machines, until its teacher agrees.

    It has as many words `_heads` as words `_tails`, such that the table of
    the numbers of each head followed by each tail has an inverse. So the
    unknown machine has at least as many states. The machine that it proposes
    has one state for each head, and a row of it tells by which sum of the
    heads a word is represented.
    """

    def __init__(self, letters):
        self._letters = letters
        self._told = {}
        self._heads = []
        self._tails = []
        self._guess = None
        # A word that has another number than by the guess, and two places in
        # it: the word up to the first one goes on with each tail as its sum of
        # the heads does, that up to the second one does not. A place behind
        # the end stands for the number of the word itself.
        self._doubt = None
        self._wish = None
        self._go_on()

    @property
    def wish(self):
        """What the learner wants: ("word", w), ("proposal", g) or ("done", g)."""
        return self._wish

    def tell(self, number):
        """Answers the wish for a word."""
        self._check_wish("word")
        self._told[self._wish[1]] = number
        self._go_on()

    def agree(self):
        """Agrees to the proposal."""
        self._check_wish("proposal")
        self._wish = ("done", self._guess)

    def refuse(self, word):
        """Refuses the proposal, with a word that has another number."""
        self._check_wish("proposal")
        check_word(self._letters, word)
        self._doubt = (word, 0, len(word) + 1)
        self._go_on()

    def _check_wish(self, kind):
        if self._wish[0] != kind:
            raise BadDeed()

    def _go_on(self):
        """Works on until a word is needed that has not been told, or there is a machine to propose."""
        self._wish = None
        while self._wish is None:
            missing = [word for word in self._needed() if word not in self._told]
            if missing:
                self._wish = ("word", missing[0])
            elif self._doubt is not None:
                self._look_closer()
            else:
                self._make_guess()

    def _needed(self):
        """The words whose numbers the next step of the work needs."""
        if self._doubt is None:
            heads = [""] + self._heads
            heads.extend([head + letter for head in self._heads for letter in alphabet(self._letters)])
            return [head + tail for head in heads for tail in self._tails]
        word, right, wrong = self._doubt
        if wrong - right > 1:
            return [word[:(right + wrong) // 2] + tail for tail in self._tails]
        return [word] if wrong > len(word) else []

    def _make_guess(self):
        """Proposes the machine that the heads and tails make, or doubts a word that has been told."""
        back = inverse(self._numbers(self._heads))
        start = row_times(self._numbers([""])[0], back)
        steps = [times(self._numbers([head + letter for head in self._heads]), back)
                 for letter in alphabet(self._letters)]
        self._guess = Machine(self._letters, start, steps, [self._told[head] for head in self._heads])
        word = _first_misfit(self._guess, self._told)
        if word is None:
            self._wish = ("proposal", self._guess)
        else:
            self._doubt = (word, 0, len(word) + 1)

    def _numbers(self, heads):
        """The table of the numbers of the heads followed by each tail."""
        return tuple([tuple([self._told[head + tail] for tail in self._tails]) for head in heads])

    def _look_closer(self):
        """Brings the two places in the doubted word closer together, or adds a head and a tail."""
        word, right, wrong = self._doubt
        if wrong - right > 1:
            middle = (right + wrong) // 2
            fits = self._parting_tail(word[:middle]) is None
            self._doubt = (word, middle, wrong) if fits else (word, right, middle)
            return
        self._doubt = None
        if wrong <= len(word):
            self._add(word[:right], word[right] + self._parting_tail(word[:wrong]))
        # Else the answers are right for no machine unless the numbers differ.
        elif self._told[word] != self._guess.number(word):
            self._add(word, "")

    def _parting_tail(self, word):
        """The first tail with which the word has another number than its sum of the heads, or None."""
        row = self._guess.row(word)
        for tail in self._tails:
            column = [self._told[head + tail] for head in self._heads]
            if self._told[word + tail] != sum_of_products(row, column):
                return tail
        return None

    def _add(self, head, tail):
        self._heads.append(head)
        self._tails.append(tail)


def _first_misfit(machine, told):
    """A word that has another number than it has been told, or None."""
    # By a wrong machine long words have very long numbers. Mostly their
    # remainders show it already; what these leave is then worked out in full.
    word = _misfit(machine, told, _rests_led, lambda gap: gap % MODULUS)
    return _misfit(machine, told, row_led, lambda gap: gap) if word is None else word


def _misfit(machine, told, follow, left):
    """A word that has another number than it has been told, or None.

    `follow` leads a row through a step, and `left` is what then is left of a
    difference of numbers: 0 where none is seen.
    """
    known = alphabet(machine.letters)
    steps = [table_above(step) for step in machine.steps]
    ends, below = row_above(machine.end)
    # The rows of the beginnings of the word at work: words that stand side by
    # side in this order begin alike.
    rows = [row_above(machine.start)]
    last = ""
    for word in sorted(told):
        shared = _common_length(last, word)
        del rows[shared + 1:]
        for letter in word[shared:]:
            tops, bottom = rows[-1]
            rows.append(follow(tops, bottom, steps[known.index(letter)]))
        tops, bottom = rows[-1]
        number = told[word]
        if left(whole_product(tops, ends) * number.bottom - number.top * bottom * below):
            return word
        last = word
    return None


def _rests_led(tops, bottom, step):
    """The row of the tops above the bottom times the step, the remainders of both alone."""
    lines, below = step
    return [top % MODULUS for top in whole_row_times(tops, lines)], bottom * below % MODULUS


def _common_length(one, other):
    """The count of the letters with which both words begin."""
    for at, (mine, its) in enumerate(zip(one, other)):
        if mine != its:
            return at
    return min(len(one), len(other))
