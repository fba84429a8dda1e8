"""What several test files need: short ways to write tables, and a slow second opinion on them."""

from fractions import Fraction
from itertools import product
from random import Random

from wordworth.machines import Machine
from wordworth.ratios import Ratio
from wordworth.tables import inverse, row_times, times


def ratio(number):
    """The Ratio of an integer, a Fraction or a string such as "-3/2"."""
    fraction = Fraction(number)
    return Ratio(fraction.numerator, fraction.denominator)


def row(*numbers):
    return tuple(ratio(number) for number in numbers)


def table(*rows):
    return tuple(row(*numbers) for numbers in rows)


def plain(numbers):
    """A row as a list of Fractions."""
    return [Fraction(number.top, number.bottom) for number in numbers]


def plain_table(rows):
    return [plain(numbers) for numbers in rows]


def wide(seed, digits=2000):
    """An integer of exactly so many digits, the same one for the same seed."""
    return Random(seed).randrange(10 ** (digits - 1), 10 ** digits)


def some_table(seed, height, width, zeros=0, most=9):
    """A table that looks like chance but is the same for the same seed."""
    chance = Random(seed)

    def number():
        if chance.randrange(100) < zeros:
            return Ratio(0)
        return Ratio(chance.randint(-most, most), chance.randint(1, most))

    return tuple(tuple(number() for _ in range(width)) for _ in range(height))


def machine(letters, start, steps, end):
    """A machine of numbers as `ratio` takes them."""
    return Machine(letters, row(*start), [table(*step) for step in steps], row(*end))


def some_machine(seed, letters, size, zeros=30, most=5):
    """A machine that looks like chance but is the same for the same seed."""
    start, end = some_table(f"{seed} start", 2, size, zeros, most)
    steps = [some_table(f"{seed} step {at}", size, size, zeros, most) for at in range(letters)]
    return Machine(letters, start, steps, end)


def some_words(letters, length):
    """All words of at most this length, ascending."""
    return ["".join(signs) for many in range(length + 1) for signs in product("abcd"[:letters], repeat=many)]


def value_of(machine, word):
    """The number of a word as a Fraction, state by state, straight from the definition."""
    line = plain(machine.start)
    for letter in word:
        step = plain_table(machine.steps["abcd".index(letter)])
        line = [sum((line[k] * step[k][j] for k in range(len(line))), Fraction(0)) for j in range(len(line))]
    return sum((mine * its for mine, its in zip(line, plain(machine.end))), Fraction(0))


def values_of(machine, length):
    """The numbers of all words of at most this length."""
    return {word: value_of(machine, word) for word in some_words(machine.letters, length)}


def some_term(seed, size, letters="ab", stars=True):
    """A term of about so many leaves that looks like chance; if there are stars, they may be wrong ones."""
    chance = seed if isinstance(seed, Random) else Random(seed)
    if stars and chance.randrange(4) == 0:
        return ("star", some_term(chance, size, letters, stars))
    if size > 1:
        first = chance.randrange(1, size)
        one = some_term(chance, first, letters, stars)
        return (chance.choice(["plus", "row"]), one, some_term(chance, size - first, letters, stars))
    if chance.randrange(3):
        return ("letter", chance.choice(letters))
    return ("number", Ratio(chance.choice([0, 0, 1, 1, 2, -3]), chance.choice([1, 1, 2, 5])))


def is_right(term):
    """True if no star in the term is a wrong one."""
    inner = term[1:] if term[0] in ("plus", "row", "star") else ()
    return all(map(is_right, inner)) and (term[0] != "star" or term_value(inner[0], "") == 0)


def term_value(term, word):
    """The number of a word by a term without wrong stars, as a Fraction, straight from the definition."""
    kind = term[0]
    if kind == "number":
        return Fraction(term[1].top, term[1].bottom) if word == "" else Fraction(0)
    if kind == "letter":
        return Fraction(word == term[1])
    if kind == "plus":
        return term_value(term[1], word) + term_value(term[2], word)
    if kind == "row":
        cuts = range(len(word) + 1)
        return sum((term_value(term[1], word[:at]) * term_value(term[2], word[at:]) for at in cuts), Fraction(0))
    if word == "":
        return Fraction(1)
    cuts = range(1, len(word) + 1)
    return sum((term_value(term[1], word[:at]) * term_value(term, word[at:]) for at in cuts), Fraction(0))


def size_and_depth(term):
    """How many parts a term has, and how deep it is nested; without recursion."""
    size, depth, waiting = 0, 0, [(term, 1)]
    while waiting:
        part, deep = waiting.pop()
        size, depth = size + 1, max(depth, deep)
        if part[0] in ("plus", "row", "star"):
            waiting.extend((inner, deep + 1) for inner in part[1:])
    return size, depth


def product_of(one, other):
    """The product of two lists of rows of Fractions, straight from its definition."""
    width = len(other[0])
    return [
        [sum((line[k] * other[k][j] for k in range(len(other))), Fraction(0)) for j in range(width)]
        for line in one
    ]


def reduced_of(rows):
    """The reduced form of rows of Fractions, by the usual steps column after column."""
    rows = [list(line) for line in rows]
    done = 0
    for column in range(len(rows[0]) if rows else 0):
        found = [at for at in range(done, len(rows)) if rows[at][column] != 0]
        if not found:
            continue
        rows[done], rows[found[0]] = rows[found[0]], rows[done]
        first = rows[done][column]
        rows[done] = [number / first for number in rows[done]]
        for at in range(len(rows)):
            if at != done and rows[at][column] != 0:
                part = rows[at][column]
                rows[at] = [mine - part * its for mine, its in zip(rows[at], rows[done])]
        done += 1
    return rows[:done]


def none(letters):
    return Machine(letters, (), ((),) * letters, ())


def carried(one, seed):
    """A machine with the same numbers and as many states, but other parts."""
    for more in range(100):
        there = some_table(f"{seed} {more}", one.size, one.size, zeros=30, most=3)
        back = inverse(there)
        if back is not None:
            break
    steps = [times(times(back, step), there) for step in one.steps]
    end = times(back, tuple((number,) for number in one.end))
    return Machine(one.letters, row_times(one.start, there), steps, [line[0] for line in end])


def widened(one, seed, more=2):
    """A machine with the same numbers and more states: some that no word reaches, or that do not count at the end."""
    size = one.size + more
    steps = []
    for at, step in enumerate(one.steps):
        extra = some_table(f"{seed} extra {at}", more, size)
        steps.append(tuple(line + (Ratio(0),) * more for line in step) + extra)
    end = one.end + some_table(f"{seed} end", 1, more)[0]
    return Machine(one.letters, one.start + (Ratio(0),) * more, steps, end)


def rank_of(lines):
    return len(reduced_of(lines))


def is_in(lines, line):
    return rank_of(lines + [line]) == rank_of(lines)


def first_ones(lines):
    """Of a dict of words, ascending, and lists of Fractions the words whose list no earlier ones add up to."""
    found, kept = [], []
    for word, line in lines.items():
        if not is_in(kept, line):
            found.append(word)
            kept.append(line)
    return found


def shown(value):
    """A short text of a value, for messages: of a long number only how long it is."""
    if isinstance(value, (tuple, list)):
        return "(" + " ".join(shown(item) for item in value) + ")"
    if isinstance(value, (Ratio, Fraction)):
        top, bottom = (value.top, value.bottom) if isinstance(value, Ratio) else value.as_integer_ratio()
        bits = max(top.bit_length(), bottom.bit_length())
        return f"{top}/{bottom}" if bits < 100 else f"<{bits} bits>"
    return repr(value)


def assert_same(test, found, wanted):
    """Both are equal. Unlike assertEqual this does not compare the texts of very large tables if they are not."""
    if found != wanted:
        test.fail(f"{shown(found)[:500]} is not {shown(wanted)[:500]}")


def assert_row(test, found):
    """The found value is a row: a tuple of Ratios in lowest terms, with bottoms above 0."""
    test.assertIs(type(found), tuple)
    for number in found:
        test.assertIs(type(number), Ratio)
        test.assertIs(type(number.top), int)
        test.assertIs(type(number.bottom), int)
        test.assertGreater(number.bottom, 0)
        fraction = Fraction(number.top, number.bottom)
        test.assertEqual((fraction.numerator, fraction.denominator), (number.top, number.bottom))


def assert_table(test, found):
    """The found value is a table: a tuple of rows of one length."""
    test.assertIs(type(found), tuple)
    for line in found:
        assert_row(test, line)
    test.assertLessEqual(len({len(line) for line in found}), 1)


def assert_reduced(test, found):
    """The table is in reduced form, property by property as point 1.3 lists them."""
    assert_table(test, found)
    rows = plain_table(found)
    leads = []
    for line in rows:
        test.assertTrue(any(line))
        leads.append([at for at, number in enumerate(line) if number][0])
        test.assertEqual(line[leads[-1]], 1)
    test.assertEqual(leads, sorted(set(leads)))
    for at, lead in enumerate(leads):
        column = [line[lead] for line in rows]
        test.assertEqual(column, [int(place == at) for place in range(len(rows))])
