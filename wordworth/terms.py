"""Sums of words: their numbers, their machines, and the sums of words of machines."""

from wordworth.errors import BadStar, BadWord
from wordworth.mixing import in_row, plus, single, star
from wordworth.ratios import Ratio
from wordworth.words import alphabet


def empty_number(term):
    """The number of the empty word."""
    return number_of(term, "")


def number_of(term, word):
    """The number of the word."""
    stretches = _worked_out(term, lambda part, inner: _stretches(part, inner, word))
    return stretches[0].get(len(word), Ratio(0))


def machine_of(term, letters):
    """A machine with so many letters and the same numbers."""
    known = alphabet(letters)
    for part in _parts(term):
        if part[0] == "letter" and part[1] not in known:
            raise BadWord(part[1])
    return _worked_out(term, lambda part, inner: _machine(part, inner, letters))


def term_of(machine):
    """A term with the same numbers, without wrong stars."""
    ways = _single_steps(machine)
    for state in range(machine.size):
        ways = _around(ways, state)
    return ways.get(("in", "out"), ("number", Ratio(0)))


def _inner(part):
    """The terms of which the part is made at once."""
    return [] if part[0] in ("number", "letter") else list(part[1:])


def _parts(term):
    """The term and all terms in it: each one behind those in it, else from left to right."""
    found = []
    waiting = [term]
    # Without recursion, because a term may be nested deeper than calls should be.
    while waiting:
        part = waiting.pop()
        found.append(part)
        waiting.extend(_inner(part))
    return found[::-1]


def _worked_out(term, work):
    """What `work` makes of the term, when it is handed each part and what it made of the terms in that."""
    done = []
    for part in _parts(term):
        first = len(done) - len(_inner(part))
        inner = done[first:]
        del done[first:]
        done.append(work(part, inner))
    return done[0]


def _stretches(part, inner, word):
    """The numbers of all stretches of the word by the part, from those by the terms in it.

    For each place of the word, its end included, there is a dict: under each
    place at which a stretch from there may end it has the number of that
    stretch, if it is not 0.
    """
    kind = part[0]
    places = range(len(word) + 1)
    if kind == "number":
        return [{at: part[1]} if part[1] else {} for at in places]
    if kind == "letter":
        return [{at + 1: Ratio(1)} if word[at:at + 1] == part[1] else {} for at in places]
    if kind == "plus":
        one, other = inner
        return [_line_sum([(Ratio(1), one[at]), (Ratio(1), other[at])]) for at in places]
    if kind == "row":
        one, other = inner
        return [_line_sum([(number, other[middle]) for middle, number in one[at].items()]) for at in places]
    return _stretches_of_star(inner[0])


def _stretches_of_star(once):
    """The numbers of all stretches by a star, from those by the term in it."""
    # The empty stretch is the same at all places.
    if 0 in once[0]:
        raise BadStar()
    found = {}
    # From the end of the word: a stretch is empty, or a first piece and what
    # the star makes of the rest, which begins further on.
    for at in reversed(range(len(once))):
        pieces = [(Ratio(1), {at: Ratio(1)})]
        pieces.extend([(number, found[middle]) for middle, number in once[at].items()])
        found[at] = _line_sum(pieces)
    return [found[at] for at in range(len(once))]


def _line_sum(pieces):
    """The sum of the lines, each times its number, without what is 0."""
    sums = {}
    for number, line in pieces:
        for place, more in line.items():
            sums[place] = sums.get(place, Ratio(0)) + number * more
    return {place: number for place, number in sums.items() if number}


def _machine(part, inner, letters):
    """The machine of the part, from those of the terms in it."""
    kind = part[0]
    if kind == "number":
        return single(letters, "", part[1])
    if kind == "letter":
        return single(letters, part[1], Ratio(1))
    if kind == "plus":
        return plus(inner[0], inner[1])
    if kind == "row":
        return in_row(inner[0], inner[1])
    return star(inner[0])


def _single_steps(machine):
    """The terms of the ways by a single step: between the states, from "in" to them, from them to "out".

    They stand under the pairs of places; a way whose numbers are all 0 is left out.
    """
    ways = {}
    for at in range(machine.size):
        if machine.start[at]:
            ways["in", at] = ("number", machine.start[at])
        if machine.end[at]:
            ways[at, "out"] = ("number", machine.end[at])
        for place in range(machine.size):
            numbers = [step[at][place] for step in machine.steps]
            found = _letters_term(alphabet(machine.letters), numbers)
            if found is not None:
                ways[at, place] = found
    return ways


def _letters_term(letters, numbers):
    """The sum of the letters, each with its number, or None if all numbers are 0."""
    found = None
    for letter, number in zip(letters, numbers):
        if number:
            more = ("letter", letter)
            if number != Ratio(1):
                more = ("row", ("number", number), more)
            found = more if found is None else ("plus", found, more)
    return found


def _around(ways, state):
    """The same ways without the state: what led through it leads there at once.

    A loop is a way of one letter or more, as are all ways between states, so
    the star over it is never a wrong one.
    """
    loop = ways.get((state, state))
    kept = {pair: term for pair, term in ways.items() if state not in pair}
    leaving = [(pair[1], term) for pair, term in ways.items() if pair[0] == state and pair[1] != state]
    for (source, target), term in ways.items():
        if target == state and source != state:
            head = term if loop is None else ("row", term, ("star", loop))
            for place, last in leaving:
                way = ("row", head, last)
                pair = (source, place)
                kept[pair] = ("plus", kept[pair], way) if pair in kept else way
    return kept
