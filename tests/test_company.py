"""Points 0.3, 0.5 and 6.1 to 6.5, and the interface under wordworth/company.py."""

import unittest
from fractions import Fraction
from functools import cache

from helpers import (
    assert_row, assert_same, carried, first_ones, machine, none, plain, ratio, row, some_machine, some_words, value_of,
    widened,
)
from wordworth.company import basis_words, by_counts, coordinates, idle, nothing, product
from wordworth.errors import BadWord
from wordworth.least import row_words
from wordworth.machines import Machine
from wordworth.mixing import by_places, constant, in_row, mixed, plus, scaled, single, star, turned
from wordworth.ratios import Ratio


def mix(*pairs):
    return tuple((ratio(number), word) for number, word in pairs)


def looked_up(one):
    """The numbers of words, each worked out once."""
    return cache(lambda word: value_of(one, word))


def company_of(one, pairs):
    """Point 6.1: the first u and the first v for it with a sum that is not 0, among all words shorter than the size."""
    values = looked_up(one)
    words = some_words(one.letters, one.size - 1)
    for head in words:
        for tail in words:
            if sum((Fraction(r.top, r.bottom) * values(head + word + tail) for r, word in pairs), Fraction(0)) != 0:
                return "company", head, tail
    return ("nothing",)


def machines():
    """Machines of up to 3 states, some of them with more states than their rank."""
    for seed in range(14):
        yield some_machine(f"company {seed}", 1 + seed % 3, seed % 4, zeros=50, most=2)
    yield from (none(2), constant(2, Ratio(0)), constant(3, Ratio(2)), single(2, "a", Ratio(1)))
    yield machine(2, [0, 1], [([1, 2], [0, 1]), ([1, 0], [3, 1])], [0, 0])
    yield widened(some_machine("company", 2, 2), 1, 1)
    yield turned(widened(some_machine("company", 1, 2), 2, 1))
    yield counter("a")
    yield shifter()
    yield single(2, "bab", Ratio(3))


def counter(letter):
    """The machine over a and b that counts one letter."""
    steps = [([1, int(letter == sign)], [0, 1]) for sign in "ab"]
    return machine(2, [1, 0], steps, [0, 1])


def shifter():
    """The words are read as numbers in base 2: a as 0, b as 1."""
    return machine(2, [1, 0], [([1, 0], [0, 2]), ([1, 1], [0, 2])], [0, 1])


def mixes(one):
    """Mixes of short words, of which some come to nothing and some do not."""
    words = some_words(one.letters, 3)
    for seed in range(12):
        many = seed % 4
        numbers = [((seed * 5 + at * 3) % 7 - 3, (seed + at) % 3 + 1) for at in range(many)]
        yield mix(*[(Fraction(*number), words[(seed * 7 + at * 5) % len(words)]) for at, number in enumerate(numbers)])
    for seed in range(7):
        word, other = words[seed % len(words)], words[(seed * 3 + 1) % len(words)]
        yield mix((1, word), (-1, other))
        yield mix((1, word), (2, other), (-1, word), (-2, other))
        yield mix((0, word), (0, other))


class Nothing(unittest.TestCase):
    def check(self, one, pairs, wanted):
        told = one.picture(), [(number.text(), word) for number, word in pairs]
        found = nothing(one, pairs)
        self.assertIs(type(found), tuple)
        self.assertTrue(all(type(item) is str for item in found))
        self.assertEqual(found, wanted)
        self.assertEqual((one.picture(), [(number.text(), word) for number, word in pairs]), told)
        self.assertEqual(nothing(machine=one, mix=pairs), found)

    def test_against_all_words_by_their_order(self):
        kinds = {}
        for one in machines():
            for pairs in mixes(one):
                wanted = company_of(one, pairs)
                self.check(one, pairs, wanted)
                kinds[wanted] = True
        self.assertGreater(len(kinds), 7)

    def test_mixes_that_come_to_nothing(self):
        for one in machines():
            self.check(one, (), ("nothing",))
            self.check(one, mix((0, "a"), (0, "")), ("nothing",))
            self.check(one, mix((1, "aa"), (-1, "aa")), ("nothing",))
            self.check(one, mix(("1/3", "a"), ("1/6", "a"), ("-1/2", "a")), ("nothing",))
            self.check(plus(one, scaled(one, Ratio(-1))), mix((1, "a"), (5, "")), ("nothing",))
        for one in (none(2), constant(2, Ratio(0))):
            self.check(one, mix((1, "ab"), (3, "")), ("nothing",))
        # What a counter gives for two letters is twice what it gives for one, less what it gives for none.
        self.check(counter("a"), mix((1, "aa"), (-2, "a"), (1, "")), ("nothing",))
        self.check(counter("a"), mix((1, "ab"), (-1, "ba")), ("nothing",))
        self.check(counter("a"), mix((1, "b"), (-1, "")), ("nothing",))

    def test_the_company_is_the_first_one(self):
        word = single(2, "abba", Ratio(1))
        self.check(word, mix((1, "b")), ("company", "a", "ba"))
        self.check(word, mix((1, "a")), ("company", "", "bba"))
        self.check(word, mix((1, "")), ("company", "", "abba"))
        self.check(word, mix((1, "a"), (1, "abb")), ("company", "", "a"))
        self.check(word, mix((7, "abba")), ("company", "", ""))
        self.check(word, mix((1, "aa")), ("nothing",))
        # The first u is looked for first, even if another u has an earlier v.
        two = plus(single(2, "abb", Ratio(1)), single(2, "ba", Ratio(1)))
        self.check(two, mix((1, "a")), ("company", "", "bb"))
        self.check(two, mix((1, "b")), ("company", "", "a"))
        self.check(two, mix((1, "b"), (-1, "bb")), ("company", "", "a"))

    def test_a_company_of_rank_less_1_letters_on_both_sides(self):
        # Only between two words of three letters each is the mix seen.
        one = single(2, "aba" + "bb" + "bab", Ratio(1))
        self.check(one, mix((1, "bb")), ("company", "aba", "bab"))
        # A machine of rank 2 that must be entered by a letter and left by one.
        two = machine(2, [1, 0], [([0, 1], [0, 0]), ([0, 0], [1, 0])], [1, 0])
        self.check(two, mix((1, "b")), ("company", "a", ""))
        self.check(two, mix((1, "a")), ("company", "", "b"))

    def test_repeated_words_add_up(self):
        one = shifter()
        self.check(one, mix((1, "a"), (1, "a"), (-2, "a")), ("nothing",))
        self.check(one, mix((1, "b"), (1, "b"), (-1, "b")), ("company", "", ""))
        self.check(one, mix((1, "b")) * 30, ("company", "", ""))

    def test_30_pairs_of_words_of_40_letters(self):
        one = carried(some_machine("thirty", 2, 6, zeros=20), 1)
        words = [("ab" * 20)[at:] + ("ba" * 20)[:at] for at in range(15)]
        halves = [(at + 1, word) for at, word in enumerate(words)]
        self.check(one, mix(*halves, *[(-number, word) for number, word in halves]), ("nothing",))
        self.check(one, mix(*halves, *[(1 - number, word) for number, word in halves]), ("company", "", ""))

    def test_machines_that_are_alike_give_the_same(self):
        for seed in range(5):
            one = some_machine(f"alike {seed}", 2, 1 + seed % 3, zeros=40)
            for other in (carried(one, seed), widened(one, seed), turned(widened(turned(one), seed))):
                for pairs in mixes(one):
                    self.assertEqual(nothing(other, pairs), nothing(one, pairs))

    def test_long_numbers(self):
        long, tiny = Ratio(10 ** 1999 + 7, 10 ** 1999 + 9), Ratio(1, 10 ** 1999)
        one = constant(2, long)
        self.check(one, ((long, "a"), (-long, "b")), ("nothing",))
        self.check(one, ((long, "a"), (tiny - long, "b")), ("company", "", ""))


class WrongWords(unittest.TestCase):
    def wrong(self, word, call, *arguments):
        with self.assertRaises(BadWord) as context:
            call(*arguments)
        self.assertEqual(context.exception.what, word)

    def test_nothing_names_the_first_wrong_word(self):
        for one in (none(2), constant(2, Ratio(0)), some_machine(1, 2, 3)):
            self.wrong("c", nothing, one, mix((1, "c")))
            self.wrong("c", nothing, one, mix((0, "c")))
            self.wrong("ac", nothing, one, mix((1, "a"), (1, ""), (2, "ac"), (3, "c")))
            self.wrong("zz", nothing, one, mix((1, "zz"), (1, "c")))
            self.wrong("abc", nothing, one, mix((1, "a"), (-1, "a"), (0, "abc")))
            for word in ("A", " ", "a b", "a\n", "\u00e4", "ab1", "*"):
                self.wrong(word, nothing, one, mix((1, word)))
                self.wrong(word, coordinates, one, word)
            # Each letter is right over its own alphabet alone.
            for letters in range(1, 4):
                word = "abcd"[letters]
                self.wrong(word, nothing, some_machine(1, letters, 2), mix((1, ""), (1, word)))
                self.wrong("a" + word, coordinates, none(letters), "a" + word)


class Bases(unittest.TestCase):
    def test_the_basis_against_its_definition(self):
        for one in machines():
            if one.size < 3 or one.letters == 1:
                told = one.picture()
                found = basis_words(one)
                self.assertIs(type(found), list)
                values = looked_up(one)
                sides = some_words(one.letters, one.size - 1)
                words = some_words(one.letters, one.size * one.size if one.letters < 3 else 3)
                lines = {word: [values(u + word + v) for u in sides for v in sides] for word in words}
                self.assertEqual(found, first_ones(lines))
                self.assertEqual(one.picture(), told)
                self.assertEqual(basis_words(machine=one), found)

    def test_bases_that_are_known(self):
        self.assertEqual(basis_words(none(2)), [])
        self.assertEqual(basis_words(constant(3, Ratio(0))), [])
        self.assertEqual(basis_words(constant(3, Ratio(2))), [""])
        self.assertEqual(basis_words(counter("b")), ["", "b"])
        self.assertEqual(basis_words(shifter()), ["", "a", "b"])
        # Each part of the word is seen by itself: six parts with letters, and the empty word.
        self.assertEqual(basis_words(single(3, "abc", Ratio(1))), ["", "a", "b", "c", "ab", "bc", "abc"])
        two = machine(2, [1, 0], [([0, 1], [0, 0]), ([0, 0], [1, 0])], [1, 0])
        self.assertEqual(basis_words(two), ["", "a", "b", "ab"])

    def test_beginnings_and_counts(self):
        for one in machines():
            found, rank = basis_words(one), len(row_words(one))
            self.assertLessEqual(len(found), rank * rank)
            self.assertTrue(all(word[:-1] in found for word in found if word))
            self.assertEqual(found, sorted(found, key=lambda word: (len(word), word)))
            self.assertEqual(len(set(found)), len(found))

    def test_a_basis_of_36_words(self):
        one = some_machine("full", 2, 6, zeros=0)
        found = basis_words(one)
        self.assertEqual(len(found), 36)
        found.append("x")
        self.assertEqual(len(basis_words(one)), 36)
        self.assertEqual(basis_words(carried(one, 1)), found[:-1])

    def test_coordinates_of_the_basis_are_the_unit_rows(self):
        for one in machines():
            words = basis_words(one)
            for at, word in enumerate(words):
                assert_same(self, coordinates(one, word), row(*[int(place == at) for place in range(len(words))]))

    def test_coordinates_against_their_definition(self):
        for one in machines():
            told = one.picture()
            basis = basis_words(one)
            for word in some_words(one.letters, 3) + ["ab" * 4 if one.letters > 1 else "a" * 8]:
                found = coordinates(one, word)
                assert_row(self, found)
                self.assertEqual(len(found), len(basis))
                if one.size < 3:
                    self.assertEqual(company_of(one, tuple(zip(found, basis)) + mix((-1, word))), ("nothing",))
                self.assertEqual(nothing(one, tuple(zip(found, basis)) + mix((-1, word))), ("nothing",))
            self.assertEqual(one.picture(), told)
            assert_same(self, coordinates(machine=one, word="a"), coordinates(one, "a"))

    def test_coordinates_that_are_known(self):
        self.assertEqual(coordinates(none(2), "ab"), ())
        self.assertEqual(coordinates(constant(2, Ratio(0)), ""), ())
        assert_same(self, coordinates(counter("b"), "babab"), row(-2, 3))
        assert_same(self, coordinates(counter("b"), "aaa"), row(1, 0))
        assert_same(self, coordinates(constant(2, Ratio(1, 3)), "b" * 200), row(1))
        assert_same(self, coordinates(counter("b"), "ab" * 100), row(-99, 100))
        word = single(2, "ab", Ratio(1))
        assert_same(self, coordinates(word, "b"), row(0, 0, 1, 0))
        assert_same(self, coordinates(word, "ba"), row(0, 0, 0, 0))

    def test_products_are_the_words_put_in_a_row(self):
        for one in machines():
            words = some_words(one.letters, 2)
            for word in words[:5]:
                for other in words[-5:]:
                    first, second = coordinates(one, word), coordinates(one, other)
                    told = plain(first), plain(second)
                    found = product(one, first, second)
                    assert_row(self, found)
                    assert_same(self, found, coordinates(one, word + other))
                    self.assertEqual((plain(first), plain(second)), told)
                    assert_same(self, product(machine=one, one=first, other=second), found)

    def test_products_of_sums(self):
        for one in machines():
            many = len(basis_words(one))
            first = row(*[Fraction(at * 5 % 7 - 3, at % 3 + 1) for at in range(many)])
            second = row(*[Fraction(at * 3 % 5 - 2, at % 2 + 1) for at in range(many)])
            found = product(one, first, second)
            basis = basis_words(one)
            pairs = [
                (mine * its, word + other) for mine, word in zip(first, basis) for its, other in zip(second, basis)
            ]
            pairs += [(-number, word) for number, word in zip(found, basis)]
            if len(pairs) <= 30:
                self.assertEqual(company_of(one, tuple(pairs)), ("nothing",))
            self.assertEqual(nothing(one, tuple(pairs)), ("nothing",))
            zeros = row(*[0] * many)
            assert_same(self, product(one, first, zeros), zeros)
            assert_same(self, product(one, zeros, second), zeros)
            if many:
                unit_row = coordinates(one, "")
                assert_same(self, product(one, unit_row, second), second)
                assert_same(self, product(one, first, unit_row), first)
        self.assertEqual(product(none(3), (), ()), ())

    def test_products_in_their_order(self):
        one = shifter()
        a, b = coordinates(one, "a"), coordinates(one, "b")
        assert_same(self, product(one, a, b), coordinates(one, "ab"))
        assert_same(self, product(one, b, a), coordinates(one, "ba"))
        self.assertNotEqual(plain(product(one, a, b)), plain(product(one, b, a)))

    def test_a_long_word_by_a_full_basis(self):
        one = some_machine("full", 4, 6, zeros=0)
        found = coordinates(one, "abcd" * 50)
        assert_row(self, found)
        self.assertEqual(len(found), 36)
        half = coordinates(one, "abcd" * 25)
        assert_same(self, product(one, half, half), found)


class Counts(unittest.TestCase):
    def check(self, one, wanted):
        told = one.picture()
        found = by_counts(one)
        self.assertIs(type(found), tuple)
        self.assertEqual(found, wanted)
        self.assertEqual(one.picture(), told)
        self.assertEqual(by_counts(machine=one), found)

    def wanted(self, one):
        """Point 6.4 and the interface, with all companies of words shorter than the size."""
        known = "abcd"[:one.letters]
        for at, first in enumerate(known):
            for second in known[at + 1:]:
                found = company_of(one, mix((1, first + second), (-1, second + first)))
                if found != ("nothing",):
                    return "words", found[1] + first + second + found[2], found[1] + second + first + found[2]
        return ("counts",)

    def test_against_all_companies(self):
        for one in machines():
            self.check(one, self.wanted(one))

    def test_the_two_words_have_other_numbers_and_the_same_letters(self):
        told = 0
        for seed in range(30):
            one = some_machine(f"counts {seed}", 2 + seed % 3, 1 + seed % 4, zeros=45, most=2)
            found = by_counts(one)
            if found[0] == "words":
                told += 1
                self.assertEqual(sorted(found[1]), sorted(found[2]))
                self.assertNotEqual(value_of(one, found[1]), value_of(one, found[2]))
            else:
                self.assertEqual(found, ("counts",))
                values = {}
                for word in some_words(one.letters, 4):
                    values.setdefault("".join(sorted(word)), set()).add(value_of(one, word))
                self.assertTrue(all(len(numbers) == 1 for numbers in values.values()))
        self.assertGreater(told, 5)

    def test_numbers_that_hang_on_counts_alone(self):
        self.check(counter("a"), ("counts",))
        self.check(by_places(counter("a"), counter("b")), ("counts",))
        self.check(constant(4, Ratio(3)), ("counts",))
        self.check(none(4), ("counts",))
        self.check(mixed(single(3, "c", Ratio(1)), constant(3, Ratio(1))), ("counts",))
        self.check(plus(single(2, "ab", Ratio(1)), single(2, "ba", Ratio(1))), ("counts",))
        # With one letter there is nothing else to hang on.
        for seed in range(4):
            self.check(some_machine(seed, 1, seed + 1), ("counts",))

    def test_numbers_that_do_not(self):
        self.check(shifter(), ("words", "ab", "ba"))
        self.check(single(2, "ab", Ratio(1)), ("words", "ab", "ba"))
        self.check(single(2, "babab", Ratio(1)), ("words", "abbab", "babab"))
        self.check(single(2, "bbba", Ratio(1)), ("words", "bbab", "bbba"))

    def test_the_first_pair_of_letters(self):
        # Where two letters are not alike in a row, all pairs before theirs are.
        for pair in ("ab", "ac", "ad", "bc", "bd", "cd"):
            self.check(single(4, pair, Ratio(1)), ("words", pair, pair[::-1]))
            self.check(single(4, pair[::-1], Ratio(1)), ("words", pair, pair[::-1]))
        both = plus(single(4, "bc", Ratio(1)), single(4, "da", Ratio(1)))
        self.check(both, ("words", "ad", "da"))
        self.check(plus(both, single(4, "acac", Ratio(1))), ("words", "acac", "caac"))
        # An earlier pair counts even if its words are longer.
        self.check(plus(single(4, "cd", Ratio(1)), single(4, "ddba", Ratio(1))), ("words", "ddab", "ddba"))


class Idle(unittest.TestCase):
    def check(self, one, wanted):
        told = one.picture()
        found = idle(one)
        self.assertIs(type(found), str)
        self.assertEqual(found, wanted)
        self.assertEqual(one.picture(), told)
        self.assertEqual(idle(machine=one), found)

    def test_against_all_companies(self):
        for one in machines():
            letters = [x for x in "abcd"[:one.letters] if company_of(one, mix((1, x), (-1, ""))) == ("nothing",)]
            self.check(one, "".join(letters))

    def test_none_some_and_all(self):
        self.check(none(4), "abcd")
        self.check(constant(3, Ratio(0)), "abc")
        self.check(constant(4, Ratio(-7)), "abcd")
        self.check(counter("a"), "b")
        self.check(counter("b"), "a")
        self.check(shifter(), "")
        self.check(single(1, "a", Ratio(1)), "")
        self.check(scaled(shifter(), Ratio(0)), "ab")
        # A letter that halves all numbers is not idle, nor one that is idle ahead of words alone.
        self.check(machine(2, [1], [(["1/2"],), ([1],)], [1]), "b")
        self.check(in_row(constant(2, Ratio(1)), single(2, "b", Ratio(1))), "")

    def test_idle_letters_may_be_put_in_anywhere(self):
        one = machine(3, [1, 2], [([1, 1], [0, 1]), ([1, 0], [0, 1]), ([0, 1], [1, 0])], [1, 3])
        wide = carried(widened(one, 1, 3), 2)
        self.check(wide, "b")
        for word in some_words(3, 3):
            self.assertEqual(wide.number(word), wide.number(word.replace("b", "")))
        self.check(star(single(3, "c", Ratio(1))), "c")

    def test_states_that_do_not_count_do_not_keep_a_letter_from_being_idle(self):
        one = machine(1, [1, 0], [([1, 0], [4, 5])], [1, 7])
        self.check(one, "a")
        self.check(turned(one), "a" if company_of(turned(one), mix((1, "a"), (-1, ""))) == ("nothing",) else "")
        self.check(Machine(1, row(1, 1), [(row(1, 3), row(0, 1))], row(1, 0)), "a")


if __name__ == "__main__":
    unittest.main()
