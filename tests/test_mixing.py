"""Points 0.3, 0.4, 0.5 and 2.3, and the interface under wordworth/mixing.py."""

import copy
import itertools
import unittest
from fractions import Fraction

from helpers import (
    assert_row, assert_same, assert_table, machine, ratio, some_machine, some_table, some_words, value_of, values_of,
    wide,
)
from wordworth.errors import BadMachine, BadStar, BadWord
from wordworth.machines import Machine
from wordworth.mixing import (
    after, ahead, by_places, constant, in_row, mixed, plus, put, scaled, single, star, totals, turned,
)
from wordworth.ratios import Ratio

OF_TWO = (plus, by_places, in_row, mixed)
LENGTHS = {1: 6, 2: 4, 3: 3, 4: 3}


def none(letters):
    """The machine without states."""
    return Machine(letters, (), ((),) * letters, ())


def some_pairs():
    """Pairs of machines with 0, 1 and more states, of one size and of two."""
    sizes = [(0, 0), (0, 1), (1, 0), (0, 3), (2, 0), (1, 1), (1, 3), (3, 1), (2, 2), (2, 3), (4, 2)]
    for at, (one, other) in enumerate(sizes):
        letters = 1 + at % 4
        yield some_machine(f"one {at}", letters, one), some_machine(f"other {at}", letters, other)


def some_machines():
    for at, size in enumerate((0, 1, 1, 2, 2, 3, 3, 4)):
        yield some_machine(f"single {at}", 1 + at % 4, size)


def no_empty(found):
    """A machine with one state more, by which the empty word has 0 and all others the same numbers."""
    less = value_of(found, "")
    size = found.size
    steps = [
        [list(line) + [Ratio(0)] for line in step] + [[Ratio(0)] * (size + 1)] for step in found.steps
    ]
    return Machine(found.letters, found.start + (Ratio(1),), steps, found.end + (ratio(-less),))


class MixingTest(unittest.TestCase):
    def check(self, found, letters, most, wanted, length=None):
        """The machine has so many letters, at most so many states, and the numbers of the function."""
        self.assertIs(type(found), Machine)
        self.assertEqual(found.letters, letters)
        self.assertLessEqual(found.size, most)
        assert_row(self, found.start)
        assert_row(self, found.end)
        for step in found.steps:
            assert_table(self, step)
        for word in some_words(letters, LENGTHS[letters] if length is None else length):
            assert_same(self, (word, found.number(word)), (word, ratio(wanted(word))))

    def check_two(self, operation, one, other, most, wanted):
        told = one.picture(), other.picture()
        f, g = values_of(one, LENGTHS[one.letters]), values_of(other, LENGTHS[one.letters])
        self.check(operation(one, other), one.letters, most, lambda word: wanted(f, g, word))
        self.check(operation(one=one, other=other), one.letters, most, lambda word: wanted(f, g, word))
        self.assertEqual((one.picture(), other.picture()), told)


def row_sum(f, g, word):
    return sum(f[word[:at]] * g[word[at:]] for at in range(len(word) + 1))


def mixed_sum(f, g, word):
    total = Fraction(0)
    for chosen in itertools.product((True, False), repeat=len(word)):
        mine = "".join(letter for letter, taken in zip(word, chosen) if taken)
        its = "".join(letter for letter, taken in zip(word, chosen) if not taken)
        total += f[mine] * g[its]
    return total


def star_sum(f, word):
    """The sum over all ways to cut the word, each way on its own."""
    if not word:
        return 1
    total = Fraction(0)
    for cuts in itertools.product((True, False), repeat=len(word) - 1):
        part, product = "", Fraction(1)
        for letter, cut in zip(word, cuts + (True,)):
            part += letter
            if cut:
                product, part = product * f[part], ""
        total += product
    return total


class OfTwoMachines(MixingTest):
    def test_plus(self):
        for one, other in some_pairs():
            self.check_two(plus, one, other, one.size + other.size, lambda f, g, word: f[word] + g[word])

    def test_by_places(self):
        for one, other in some_pairs():
            self.check_two(by_places, one, other, one.size * other.size, lambda f, g, word: f[word] * g[word])

    def test_in_row(self):
        for one, other in some_pairs():
            self.check_two(in_row, one, other, one.size + other.size, row_sum)

    def test_mixed(self):
        for one, other in some_pairs():
            self.check_two(mixed, one, other, one.size * other.size, mixed_sum)

    def test_one_machine_beside_itself(self):
        for one in some_machines():
            self.check_two(plus, one, one, 2 * one.size, lambda f, g, word: 2 * f[word])
            self.check_two(by_places, one, one, one.size ** 2, lambda f, g, word: f[word] ** 2)
            self.check_two(in_row, one, one, 2 * one.size, row_sum)
            self.check_two(mixed, one, one, one.size ** 2, mixed_sum)

    def test_in_row_keeps_the_order(self):
        one, other = single(2, "a", Ratio(2)), single(2, "b", Ratio(3))
        self.check(in_row(one, other), 2, 4, lambda word: 6 * (word == "ab"))
        self.check(in_row(other, one), 2, 4, lambda word: 6 * (word == "ba"))

    def test_in_row_with_empty_words(self):
        one, other = constant(2, Ratio(2)), constant(2, Ratio(1, 2))
        self.check(in_row(one, other), 2, 2, lambda word: len(word) + 1)
        empty = single(2, "", Ratio(-3))
        self.check(in_row(empty, one), 2, 2, lambda word: -6)
        self.check(in_row(one, empty), 2, 2, lambda word: -6)

    def test_mixed_of_words(self):
        found = mixed(single(2, "ab", Ratio(1)), single(2, "a", Ratio(1)))
        self.check(found, 2, 6, lambda word: {"aab": 2, "aba": 1}.get(word, 0))
        found = mixed(constant(1, Ratio(1)), constant(1, Ratio(1)))
        self.check(found, 1, 1, lambda word: 2 ** len(word), 10)

    def test_8_states(self):
        one, other = some_machine("8", 4, 8), some_machine("8 too", 4, 8)
        f, g = values_of(one, 2), values_of(other, 2)
        self.check(plus(one, other), 4, 16, lambda word: f[word] + g[word], 2)
        self.check(by_places(one, other), 4, 64, lambda word: f[word] * g[word], 2)
        self.check(in_row(one, other), 4, 16, lambda word: row_sum(f, g, word), 2)
        self.check(mixed(one, other), 4, 64, lambda word: mixed_sum(f, g, word), 2)

    def test_other_alphabets(self):
        for letters in range(1, 5):
            for others in range(1, 5):
                if letters != others:
                    for size in (0, 2):
                        one, other = some_machine(1, letters, 2), some_machine(2, others, size)
                        for operation in OF_TWO:
                            with self.assertRaises(BadMachine) as context:
                                operation(one, other)
                            self.assertIsNone(context.exception.what)

    def test_asking_again_gives_the_same(self):
        one, other = some_machine(3, 2, 2), some_machine(4, 2, 3)
        for operation in OF_TWO:
            found = operation(one, other)
            told = found.picture()
            operation(other, one)
            self.assertEqual(operation(one, other).picture(), told)
            self.assertEqual(found.picture(), told)


class Scaled(MixingTest):
    def test_numbers(self):
        for one in some_machines():
            for number in ("0", "1", "-1", "-2/3", "7"):
                told = one.picture()
                f = values_of(one, LENGTHS[one.letters])
                self.check(scaled(one, ratio(number)), one.letters, one.size, lambda word: f[word] * Fraction(number))
                self.assertEqual(one.picture(), told)
        found = scaled(machine=constant(2, Ratio(3)), number=Ratio(1, 3))
        self.check(found, 2, 1, lambda word: 1)

    def test_2000_digits(self):
        number = Ratio(wide(1), wide(2))
        found = scaled(some_machine(5, 2, 2), number)
        f = values_of(some_machine(5, 2, 2), 2)
        self.check(found, 2, 2, lambda word: f[word] * Fraction(number.top, number.bottom), 2)


class Star(MixingTest):
    def test_numbers(self):
        for one in some_machines():
            one = no_empty(one)
            told = one.picture()
            f = values_of(one, LENGTHS[one.letters])
            self.check(star(one), one.letters, one.size + 1, lambda word: star_sum(f, word))
            self.assertEqual(one.picture(), told)
            self.assertEqual(star(one).picture(), star(machine=one).picture())

    def test_without_states(self):
        for letters in (1, 2, 3, 4):
            self.check(star(none(letters)), letters, 1, lambda word: int(not word))

    def test_of_one_letter_and_of_one_word(self):
        self.check(star(single(2, "a", Ratio(2))), 2, 3, lambda word: 0 if "b" in word else 2 ** len(word))
        self.check(star(single(2, "ab", Ratio(3))), 2, 4,
                   lambda word: 3 ** (len(word) // 2) if word == "ab" * (len(word) // 2) else 0)

    def test_of_a_star(self):
        one = in_row(single(2, "b", Ratio(1)), star(single(2, "a", Ratio(1))))
        self.check(star(one), 2, one.size + 1, lambda word: int(word[:1] != "a"))

    def test_letters_by_many_ways(self):
        one = machine(1, [0, 1], [([1, 0], [1, 0])], [1, 0])
        self.check(one, 1, 2, lambda word: int(word != ""))
        self.check(star(one), 1, 3, lambda word: 2 ** (len(word) - 1) if word else 1, 9)

    def test_0_that_comes_of_several_numbers(self):
        one = machine(1, ["1/2", "1/3", -1], [([1, 0, 0], [0, 2, 0], [0, 0, 3])], [1, 1, "5/6"])
        f = values_of(one, 6)
        self.assertEqual(f[""], 0)
        self.check(star(one), 1, 4, lambda word: star_sum(f, word))

    def test_an_empty_word_with_another_number_than_0(self):
        tiny = Ratio(1, 10 ** 1999)
        wrong = [
            constant(1, Ratio(1)), constant(4, Ratio(-1)), constant(2, tiny), constant(2, -tiny),
            single(2, "", tiny), plus(single(2, "", Ratio(1)), single(2, "", tiny - Ratio(1))),
            machine(1, ["1/2", "1/3"], [([0, 0], [0, 0])], [2, "-29999999/10000000"]),
        ]
        for one in wrong:
            told = one.picture()
            with self.assertRaises(BadStar) as context:
                star(one)
            self.assertIsNone(context.exception.what)
            self.assertEqual(one.picture(), told)
        found = star(plus(single(2, "", Ratio(1)), single(2, "", Ratio(-1))))
        self.check(found, 2, 5, lambda word: int(not word))


class WithWords(MixingTest):
    def test_turned(self):
        for one in some_machines():
            told = one.picture()
            f = values_of(one, LENGTHS[one.letters])
            self.check(turned(one), one.letters, one.size, lambda word: f[word[::-1]])
            self.check(turned(machine=turned(one)), one.letters, one.size, lambda word: f[word])
            self.assertEqual(one.picture(), told)

    def test_ahead_and_after(self):
        for one in some_machines():
            told = one.picture()
            last = "abcd"[one.letters - 1]
            for word in ("", "a", last, "a" + last, last + "a" + last):
                length = 2
                f = values_of(one, length + len(word))
                self.check(ahead(one, word), one.letters, one.size, lambda rest: f[word + rest], length)
                self.check(after(one, word), one.letters, one.size, lambda rest: f[rest + word], length)
                self.check(ahead(machine=one, word=word), one.letters, one.size, lambda rest: f[word + rest], 1)
                self.check(after(machine=one, word=word), one.letters, one.size, lambda rest: f[rest + word], 1)
            self.assertEqual(one.picture(), told)

    def test_ahead_and_after_with_200_letters(self):
        one = some_machine(6, 2, 3)
        word = "ab" * 100
        assert_same(self, ahead(one, word).number("b"), one.number(word + "b"))
        assert_same(self, after(one, word).number("b"), one.number("b" + word))

    def test_single(self):
        for letters in (1, 2, 3, 4):
            last = "abcd"[letters - 1]
            for word in ("", "a", last, "a" + last, last + last + "a", "aaa"):
                for number in ("0", "1", "-5/3"):
                    found = single(letters, word, ratio(number))
                    self.check(found, letters, len(word) + 1, lambda other: Fraction(number) * (other == word), 4)
        self.check(single(letters=2, word="ab", number=Ratio(2)), 2, 3, lambda other: 2 * (other == "ab"))

    def test_single_with_12_letters(self):
        word = "abbabbbaabab"
        found = single(2, word, Ratio(1, 7))
        self.assertLessEqual(found.size, 13)
        for other in (word[1:], word[:-1], word + "a", "a" + word, word[::-1], "a" * 12, "", word[:6], word + word):
            assert_same(self, found.number(other), Ratio(0))
        assert_same(self, found.number(word), Ratio(1, 7))
        self.check(single(1, "a" * 12, Ratio(1)), 1, 13, lambda other: int(len(other) == 12), 26)

    def test_constant(self):
        for letters in (1, 2, 3, 4):
            for number in ("0", "1", "-5/3"):
                self.check(constant(letters, ratio(number)), letters, 1, lambda word: Fraction(number))
        self.check(constant(letters=2, number=Ratio(7)), 2, 1, lambda word: 7)

    def test_words_with_characters_that_are_no_letters(self):
        for letters, sign in ((1, "b"), (2, "c"), (3, "d"), (4, "e"), (4, "A"), (2, " ")):
            one = some_machine(7, letters, 2)
            for word in (sign, sign + "a", "a" + sign + "a", "aa" + sign):
                for ask in (
                    lambda: ahead(one, word), lambda: after(one, word), lambda: single(letters, word, Ratio(1)),
                    lambda: put(one, [word]), lambda: ahead(none(letters), word), lambda: put(none(letters), (word,)),
                ):
                    with self.assertRaises(BadWord) as context:
                        ask()
                    self.assertEqual(context.exception.what, word)


class Put(MixingTest):
    def test_numbers(self):
        lists = [["a"], [""], ["ab"], ["", "a"], ["b", "a"], ["ba", "", "aab"], ["a", "bb", "", "ab"], ["", "", "", ""]]
        for at, words in enumerate(lists):
            for size in (0, 1, 2, 3):
                one = some_machine(f"put {at}", 2 + at % 2, size)
                told = one.picture()
                kept = copy.copy(words)
                for passed in (words, tuple(words)):
                    self.check(
                        put(one, passed), len(words), size,
                        lambda word: value_of(one, "".join(words["abcd".index(letter)] for letter in word)), 3,
                    )
                self.assertEqual(words, kept)
                self.assertEqual(one.picture(), told)

    def test_an_alphabet_may_grow_and_shrink(self):
        one = some_machine(8, 1, 2)
        self.check(put(one, ["a", "aa", "", "aaa"]), 4, 2, lambda word: value_of(
            one, "a" * sum({"a": 1, "b": 2, "c": 0, "d": 3}[letter] for letter in word)))
        other = some_machine(9, 4, 2)
        self.check(put(machine=other, words=("dcba",)), 1, 2, lambda word: value_of(other, "dcba" * len(word)), 4)

    def test_words_of_20_letters(self):
        one = some_machine(10, 2, 2)
        words = ["ab" * 10, "b" * 20]
        self.check(put(one, words), 2, 2,
                   lambda word: value_of(one, "".join(words["ab".index(letter)] for letter in word)), 2)

    def test_the_list_may_be_changed_afterwards(self):
        one = some_machine(11, 2, 2)
        words = ["ab", "b"]
        found = put(one, words)
        told = found.picture()
        words[0] = "c"
        words.append("a")
        self.assertEqual(found.picture(), told)
        self.assertEqual(put(one, ["ab", "b"]).picture(), told)

    def test_the_first_word_with_a_wrong_character_is_named(self):
        one = some_machine(12, 2, 2)
        for words, wrong in (
            (["a", "c"], "c"), (["c", "d"], "c"), (["d", "c"], "d"), (["", "ab", "abc", "c"], "abc"),
            (["b", "ad", "", "c"], "ad"), (["bbd", "a", "c", "a"], "bbd"),
        ):
            for passed in (words, tuple(words)):
                with self.assertRaises(BadWord) as context:
                    put(one, passed)
                self.assertEqual(context.exception.what, wrong)


class Totals(MixingTest):
    def test_numbers(self):
        for one in some_machines():
            told = one.picture()
            f = values_of(one, 4)
            self.check(totals(one), 1, one.size, lambda word: sum(
                number for other, number in f.items() if len(other) == len(word)), 4)
            self.assertEqual(one.picture(), told)

    def test_4_letters(self):
        self.check(totals(constant(4, Ratio(1, 2))), 1, 1, lambda word: Fraction(4 ** len(word), 2), 8)
        found = totals(machine=plus(single(4, "dc", Ratio(5)), single(4, "ab", Ratio(-2))))
        self.check(found, 1, 6, lambda word: 3 * (len(word) == 2))


class Machines(MixingTest):
    def test_what_is_returned_may_be_passed_on(self):
        one = in_row(star(no_empty(some_machine(13, 2, 1))), turned(some_machine(14, 2, 2)))
        f = values_of(one, 4)
        self.check(plus(one, one), 2, 10, lambda word: 2 * f[word])

    def test_numbers_of_2000_digits(self):
        start, end = some_table("start", 2, 2, most=10 ** 2000 - 1)
        one = Machine(1, start, [some_table("step", 2, 2, most=9)], end)
        f = values_of(one, 2)
        self.check(plus(one, one), 1, 4, lambda word: 2 * f[word], 2)
        self.check(in_row(one, one), 1, 4, lambda word: row_sum(f, f, word), 1)
        self.check(single(2, "b", start[0]), 2, 2,
                   lambda word: Fraction(start[0].top, start[0].bottom) * (word == "b"), 2)

    def test_what_the_tests_of_star_count_on(self):
        one = some_machine(15, 2, 2)
        f, g = values_of(one, 3), values_of(no_empty(one), 3)
        self.assertNotEqual(f[""], 0)
        self.assertEqual(g, {word: number if word else 0 for word, number in f.items()})


if __name__ == "__main__":
    unittest.main()
