"""Points 0.3, 0.5, 7.1, 7.2 and 7.3, and the interface under wordworth/wholes.py."""

import unittest
from fractions import Fraction
from math import gcd, prod
from random import Random

from helpers import (
    assert_table, carried, machine, none, plain, plain_table, ratio, some_machine, some_words, value_of, widened,
)
from wordworth.alike import compare
from wordworth.errors import BadWord
from wordworth.lattices import basic, pieces
from wordworth.least import column_words, row_words
from wordworth.machines import Machine
from wordworth.mixing import by_places, constant, in_row, plus, scaled, single, star, turned
from wordworth.ratios import Ratio
from wordworth.wholes import is_whole_paper, whole, whole_machine


def integers(seed, letters, size, zeros=50, most=3):
    """A machine of integers that looks like chance but is the same for the same seed."""
    one = some_machine(seed, letters, size, zeros, most)
    start, *lines, end = [
        tuple(Ratio(number.top) for number in line)
        for line in (one.start, *[line for step in one.steps for line in step], one.end)
    ]
    return Machine(letters, start, [lines[at * size:(at + 1) * size] for at in range(letters)], end)


def hidden(seed, letters, size):
    """A machine whose numbers are all whole though its parts are not."""
    one = integers(f"hidden {seed}", letters, size, zeros=25)
    return carried(widened(one, seed, 1) if seed % 2 else one, seed)


def stepped(word, low, letters=2):
    """The machine that gives words along the word 1, 1/low at its end, and all others 0."""
    return single(letters, word, Ratio(1, low))


def fading(high, low=2):
    """One letter: the number of a^m is high over low to the m."""
    return machine(1, [high], [([Fraction(1, low)],)], [1])


def whole_ones():
    for seed in range(12):
        yield hidden(seed, 1 + seed % 3, 1 + seed % 3)
    yield none(2)
    yield constant(2, Ratio(0))
    yield widened(constant(2, Ratio(0)), 1)
    yield constant(3, Ratio(-6))
    yield single(2, "ab", Ratio(4))
    yield chains()
    yield halves()
    yield plus(constant(2, Ratio(1, 2)), machine(2, ["1/2"], [([-1],), ([3],)], [1]))


def chains():
    """4 for the empty word, 2 for a, and 1 for aa."""
    return plus(plus(single(2, "", Ratio(4)), single(2, "a", Ratio(2))), single(2, "aa", Ratio(1)))


def halves():
    """The words of m letters a have the number m (m - 1) / 2."""
    return machine(1, [1, 0, 0], [([1, 1, 0], [0, 1, 1], [0, 0, 1])], [0, 0, 1])


def broken_ones():
    for seed in range(8):
        yield some_machine(f"broken {seed}", 1 + seed % 3, 1 + seed % 3, zeros=0), None
        yield plus(hidden(seed, 2, 2), single(2, "abb"[:seed % 4], Ratio(1, 3))), "abb"[:seed % 4]
    yield constant(2, Ratio(1, 2)), ""
    yield constant(1, Ratio(7, 10 ** 9 - 1)), ""
    yield fading(8), "aaaa"
    yield single(3, "cab", Ratio(5, 4)), "cab"
    yield plus(single(2, "bba", Ratio(1, 2)), single(2, "abab", Ratio(1, 3))), "bba"
    yield plus(stepped("ba", 2), stepped("ab", 3)), "ab"


def vectors_of(one, words):
    """The numbers of each word followed by all words shorter than the rank, which stand for all words."""
    tails = some_words(one.letters, len(row_words(one)) - 1)
    return {word: tuple(value_of(one, word + tail) for tail in tails) for word in words}


def whole_lines(vectors):
    return {word: tuple(int(number) for number in line) for word, line in vectors.items()}


def lattice_words_of(one):
    """Point 7.1, among all words with at most as many letters as the machine has states."""
    found, lattice = [], ()
    longest = one.size if one.letters < 3 else len(row_words(one))
    for word, line in whole_lines(vectors_of(one, some_words(one.letters, longest))).items():
        larger = basic(list(lattice) + [line])
        if larger != lattice:
            found.append(word)
            lattice = larger
    return tuple(found)


def is_right(one, words):
    """Point 7.2, sentence by sentence."""
    if not words and not row_words(one):
        return True
    if "" not in words:
        return False
    needed = [word + tail for word in words for tail in ["", *"abcd"[:one.letters]]]
    vectors = vectors_of(one, needed)
    if any(number.denominator != 1 for line in vectors.values() for number in line):
        return False
    lines = whole_lines(vectors)
    own = basic([lines[word] for word in words])
    return all(basic(list(own) + [line]) == own for line in lines.values())


def first_broken(one, longest):
    for word in some_words(one.letters, longest):
        if value_of(one, word).denominator != 1:
            return word
    return None


class Whole(unittest.TestCase):
    def check_whole(self, one):
        told = one.picture()
        found = whole(one)
        self.assertIs(type(found), tuple)
        self.assertEqual((found[0], len(found)), ("whole", 2))
        paper = found[1]
        self.assertIs(type(paper), tuple)
        self.assertTrue(all(type(word) is str for word in paper))
        self.assertIs(is_whole_paper(one, paper), True)
        self.assertEqual(one.picture(), told)
        self.assertEqual(whole(machine=one), found)
        return paper

    def check_broken(self, one, word):
        told = one.picture()
        found = whole(one)
        self.assertIs(type(found), tuple)
        self.assertEqual(found, ("broken", word))
        self.assertIs(type(found[1]), str)
        self.assertFalse(one.number(word).is_whole)
        self.assertIsNone(whole_machine(one))
        self.assertEqual(one.picture(), told)
        self.assertEqual(whole(machine=one), found)

    def test_the_lattice_words_against_their_definition(self):
        for one in whole_ones():
            paper = self.check_whole(one)
            self.assertEqual(paper, lattice_words_of(one))
            self.assertTrue(all(word[:-1] in paper for word in paper if word))
            self.assertTrue(all(len(word) < len(row_words(one)) for word in paper))
            self.assertIsNone(first_broken(one, 4 if one.letters < 3 else 2))

    def test_lattice_words_that_are_known(self):
        self.assertEqual(whole(none(3)), ("whole", ()))
        self.assertEqual(whole(constant(2, Ratio(0))), ("whole", ()))
        self.assertEqual(whole(constant(2, Ratio(-4))), ("whole", ("",)))
        self.assertEqual(whole(single(2, "ab", Ratio(9))), ("whole", ("", "a", "ab")))
        self.assertEqual(whole(halves()), ("whole", ("", "a", "aa")))

    def test_more_lattice_words_than_the_rank(self):
        # The rows of a and b are the same but for a factor: 2 for a, 3 for b. Together they give 1.
        one = machine(2, [1, 0], [([0, 2], [0, 0]), ([0, 3], [0, 0])], [0, 1])
        self.assertEqual(self.check_whole(one), ("", "a", "b"))
        self.assertEqual(row_words(one), ["", "a"])
        four = machine(4, [1, 0], [([0, 30], [0, 0]), ([0, 42], [0, 0]), ([0, 70], [0, 0]), ([0, 105], [0, 0])], [0, 1])
        self.assertEqual(self.check_whole(four), ("", "a", "b", "c", "d"))
        same = machine(3, [1, 0], [([0, 2], [0, 0]), ([0, 4], [0, 0]), ([0, 3], [0, 0])], [0, 1])
        self.assertEqual(self.check_whole(same), ("", "a", "c"))

    def test_a_paper_of_many_words(self):
        # Each letter leads one state further and leaves out another prime: a
        # word counts if its product is no multiple of what the earlier ones share.
        factors = dict(zip("abcd", (3 * 5 * 7, 2 * 5 * 7, 2 * 3 * 7, 2 * 3 * 5)))
        steps = [[[by if place == at + 1 else 0 for place in range(6)] for at in range(6)] for by in factors.values()]
        one = machine(4, [1, 0, 0, 0, 0, 0], steps, [0, 0, 0, 0, 0, 1])
        shared, wanted = [0] * 6, []
        for word in some_words(4, 5):
            product = prod(factors[letter] for letter in word)
            if gcd(shared[len(word)], product) != shared[len(word)]:
                shared[len(word)] = gcd(shared[len(word)], product)
                wanted.append(word)
        paper = self.check_whole(one)
        self.assertEqual(paper, tuple(wanted))
        self.assertEqual(len(paper), 51)
        self.assertIs(is_whole_paper(one, paper[:-1]), False)

    def test_the_first_broken_word(self):
        for one, word in broken_ones():
            if word is None:
                word = first_broken(one, 3)
                self.assertIsNotNone(word)
            self.check_broken(one, word)
            self.assertEqual(first_broken(one, len(word)), word)
            for other in (carried(one, word), turned(turned(widened(one, word, 1)))):
                self.check_broken(other, word)

    def test_machines_that_break_at_a_long_word(self):
        for high, many in ((1, 1), (2, 2), (64, 7), (2 ** 29, 30)):
            self.check_broken(fading(high), "a" * many)
            self.check_broken(plus(fading(high), halves()), "a" * many)
        self.check_broken(fading(3 ** 18, 3), "a" * 19)
        self.check_broken(machine(1, [2 ** 29], [(["1/2"],)], [2 ** 29]), "a" * 59)
        # Only b halves, and a word with a in it has more to lose.
        two = machine(2, [32], [([2],), (["1/2"],)], [1])
        self.check_broken(two, "b" * 6)
        three = machine(2, [8], [(["1/2"],), (["1/4"],)], [1])
        self.check_broken(three, "bb")
        self.check_broken(machine(2, [8], [(["1/4"],), (["1/2"],)], [1]), "aa")
        self.check_broken(machine(2, [8], [(["1/4"],), (["1/3"],)], [1]), "b")

    def test_a_broken_word_of_more_than_200_letters(self):
        big, steps = 2 ** 29, []
        for at in range(6):
            steps.append([Fraction(at == place, 2) + (big if place == at + 1 else 0) for place in range(6)])
        one = machine(1, [big, 0, 0, 0, 0, 0], [steps], [0, 0, 0, 0, 0, big])
        found = whole(one)
        self.assertEqual(found[0], "broken")
        self.assertGreater(len(found[1]), 200)
        self.assertFalse(one.number(found[1]).is_whole)
        self.assertTrue(all(one.number("a" * many).is_whole for many in range(len(found[1]))))

    def test_numbers_of_nine_digits(self):
        for letters in (1, 4):
            one = some_machine(f"nine {letters}", letters, 6, zeros=0, most=10 ** 9 - 1)
            self.check_broken(one, "")
            self.check_whole(integers(f"nine {letters}", letters, 6, zeros=0, most=10 ** 9 - 1))

    def test_sums_of_parts_that_are_not_whole(self):
        one = halves()
        third = scaled(one, Ratio(1, 3))
        self.assertEqual(whole(plus(plus(third, third), third)), whole(one))
        self.assertEqual(whole(plus(third, third))[0], "broken")


class Papers(unittest.TestCase):
    def check(self, one, words, wanted):
        told = one.picture()
        self.assertIs(is_whole_paper(one, words), wanted)
        self.assertEqual(one.picture(), told)
        self.assertIs(is_whole_paper(machine=one, words=words), wanted)

    def test_words_in_any_order_and_repeated(self):
        for one in whole_ones():
            paper = whole(one)[1]
            self.check(one, paper, True)
            self.check(one, paper[::-1], True)
            if paper:
                self.check(one, paper + paper, True)
                self.check(one, paper[-1:] + paper[:1] * 3 + paper, True)

    def test_a_word_left_out(self):
        left_out = 0
        for one in whole_ones():
            paper = whole(one)[1]
            for at in range(len(paper)):
                fewer = paper[:at] + paper[at + 1:]
                self.check(one, fewer, is_right(one, fewer))
                left_out += not is_right(one, fewer)
        self.assertGreater(left_out, 20)
        self.check(single(2, "ab", Ratio(9)), ("", "ab"), False)
        self.check(single(2, "ab", Ratio(9)), ("", "a"), False)

    def test_without_the_empty_word(self):
        one = constant(2, Ratio(3))
        self.check(one, ("",), True)
        self.check(one, ("a",), False)
        self.check(one, ("a", "b", "ab"), False)
        self.check(one, (), False)
        self.check(one, ("a", ""), True)

    def test_other_words_than_the_lattice_words(self):
        # Of 1, 2, 3, 4 .. for words of letters a, any word that ends after one more letter will do.
        one = machine(1, [1, 1], [([1, 1], [0, 1])], [0, 1])
        self.check(one, ("", "a"), True)
        self.check(one, ("", "aa"), False)
        self.check(one, ("", "aa", "aaa"), True)
        self.check(one, ("", "a" * 199, "a" * 200), True)
        self.check(one, ("", "a" * 198, "a" * 200), False)
        self.check(one, tuple("a" * many for many in range(201)), True)

    def test_against_the_definition(self):
        kinds = {True: 0, False: 0}
        for at, one in enumerate(whole_ones()):
            chance = Random(at)
            words = some_words(one.letters, 2)
            for _ in range(8):
                some = tuple(chance.sample(words, chance.randrange(min(6, len(words)) + 1)))
                some = ("",) + some if chance.randrange(4) else some
                wanted = is_right(one, some)
                kinds[wanted] += 1
                self.check(one, some, wanted)
        self.assertGreater(min(kinds.values()), 20)

    def test_machines_that_are_not_whole_have_no_right_paper(self):
        for one, _ in broken_ones():
            for words in ((), ("",), ("", "a"), tuple(some_words(one.letters, 2)), tuple(some_words(one.letters, 4))):
                self.check(one, words, False)
        # All words that are listed have whole numbers, and one step behind them still.
        self.check(fading(8), ("", "a"), False)
        self.check(fading(8), ("", "a", "aa", "aaa"), False)
        # The numbers of the words are whole, but not the integers that should make the next word of them.
        self.check(plus(fading(4), constant(1, Ratio(1))), ("", "a"), False)

    def test_integers_are_needed(self):
        # The row of b is 3/2 of that of a.
        one = machine(2, [1, 0], [([0, 2], [0, 0]), ([0, 3], [0, 0])], [0, 1])
        self.check(one, ("", "a"), False)
        self.check(one, ("", "b"), False)
        self.check(one, ("", "a", "b"), True)
        self.check(machine(2, [1, 0], [([0, 3], [0, 0]), ([0, 3], [0, 0])], [0, 1]), ("", "a"), True)

    def test_rank_0(self):
        for one in (none(2), constant(2, Ratio(0)), widened(constant(2, Ratio(0)), 1)):
            self.check(one, (), True)
            self.check(one, ("",), True)
            self.check(one, ("", "ab", ""), True)
            self.check(one, ("a",), False)
            self.check(one, ("a", "b"), False)

    def test_wrong_characters(self):
        for one in (none(2), constant(2, Ratio(1)), constant(2, Ratio(1, 2)), hidden(1, 2, 2)):
            for words, wrong in (
                    (("c",), "c"), (("", "a", "ac", "zz"), "ac"), (("zz", "c"), "zz"), (("a", "b", "abA"), "abA"),
                    (("", " ", "c"), " "), (("b\n", "c"), "b\n")):
                with self.assertRaises(BadWord) as context:
                    is_whole_paper(one, words)
                self.assertEqual(context.exception.what, wrong)
        with self.assertRaises(BadWord) as context:
            is_whole_paper(constant(3, Ratio(1)), ("", "abc", "abcd"))
        self.assertEqual(context.exception.what, "abcd")

    def test_1500_words(self):
        one = hidden(5, 4, 4)
        paper = whole(one)[1]
        self.assertGreater(len(paper), 1)
        many = tuple(some_words(4, 5))[:1400]
        self.check(one, many, True)
        self.check(one, many[1:], False)
        self.check(one, (paper * 1500)[:1500], True)
        self.check(one, (paper[:-1] * 1500)[:1500], is_right(one, paper[:-1]))


class WholeMachine(unittest.TestCase):
    def check(self, one):
        """Point 7.3, sentence by sentence."""
        told = one.picture()
        found = whole_machine(one)
        self.assertIs(type(found), Machine)
        columns = column_words(one)
        self.assertEqual((found.letters, found.size), (one.letters, len(columns)))
        for numbers in (found.start, found.end, *[line for step in found.steps for line in step]):
            self.assertTrue(all(type(number) is Ratio and number.is_whole for number in numbers))
        for step in found.steps:
            assert_table(self, step)
        self.assertEqual(compare(one, found)[0], "same")
        words = some_words(one.letters, max(3, one.size) if one.letters < 3 else 3)
        lines = {word: tuple(int(value_of(one, word + tail)) for tail in columns) for word in words}
        basis = basic([line for at, line in enumerate(lines.values()) if at < 40])
        self.assertEqual(len(basis), len(columns))
        for word in words:
            wanted = pieces(basis, lines[word])
            self.assertIsNotNone(wanted)
            self.assertEqual(plain(found.row(word)), list(wanted))
        self.assertEqual(one.picture(), told)
        self.assertEqual(whole_machine(machine=one).picture(), found.picture())
        return found

    def test_whole_machines(self):
        for one in whole_ones():
            self.check(one)

    def test_the_numbers_alone_decide(self):
        for seed in range(6):
            one = hidden(seed, 1 + seed % 4, 1 + seed % 3)
            picture = self.check(one).picture()
            for other in (carried(one, seed + 7), widened(one, seed, 1), turned(widened(turned(one), seed, 1))):
                self.assertEqual(whole_machine(other).picture(), picture)
            self.assertEqual(whole_machine(whole_machine(one)).picture(), picture)

    def test_machines_number_by_number(self):
        self.assertEqual(whole_machine(none(2)).picture(), (2, (), ((), ()), ()))
        self.assertEqual(whole_machine(constant(2, Ratio(0))).picture(), (2, (), ((), ()), ()))
        self.assertEqual(self.check(constant(1, Ratio(-6))).picture(), (1, ("-1",), ((("1",),),), ("6",)))
        # The columns are those of the empty word, a and aa: the rows are 0 0 1, then 0 1 3, then 1 3 6.
        found = self.check(halves())
        self.assertEqual(plain_table([found.row("a" * many) for many in range(3)]), [[0, 0, 1], [0, 1, 3], [1, 3, 6]])
        self.assertEqual(plain(found.end), [1, 0, 0])
        one = machine(2, [1, 0], [([0, 2], [0, 0]), ([0, 3], [0, 0])], [0, 1])
        self.assertEqual(plain(self.check(one).row("b")), [3, 0])

    def test_machines_that_are_not_whole(self):
        for one, _ in broken_ones():
            self.assertIsNone(whole_machine(one))

    def test_six_states(self):
        for letters in (1, 2, 4):
            one = carried(integers(f"six {letters}", letters, 6, zeros=0, most=9), letters)
            found = whole_machine(one)
            self.assertEqual(found.size, 6)
            self.assertEqual(compare(one, found)[0], "same")
            rows = [tuple(int(number) for number in plain(found.row(word))) for word in whole(one)[1]]
            # The rows of all words span all rows of integers.
            self.assertEqual(basic(rows), tuple(tuple(int(at == place) for place in range(6)) for at in range(6)))


class MainPromise(unittest.TestCase):
    def test_whole_numbers_exactly_if_there_is_a_machine_of_whole_numbers(self):
        for seed in range(25):
            one = by_places(some_machine(f"main {seed}", 2, 2, zeros=60, most=2), constant(2, Ratio(1 + seed % 4)))
            found = whole(one)
            if found[0] == "whole":
                self.assertIsNone(first_broken(one, 5))
                self.assertIs(is_whole_paper(one, found[1]), True)
                self.assertEqual(whole_machine(one).size, len(row_words(one)))
            else:
                self.assertEqual(first_broken(one, len(found[1])), found[1])
                self.assertIsNone(whole_machine(one))

    def test_machines_of_terms(self):
        one = star(plus(single(2, "a", Ratio(2)), single(2, "ab", Ratio(-3))))
        self.assertEqual(whole(one)[0], "whole")
        self.assertEqual(whole(in_row(one, single(2, "b", Ratio(1, 2)))), ("broken", "b"))
        self.assertEqual(ratio("1/2").text(), in_row(one, single(2, "b", Ratio(1, 2))).number("b").text())


if __name__ == "__main__":
    unittest.main()
