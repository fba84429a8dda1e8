"""Points 0.3, 0.4, 0.5, 3.1 and 3.5, and the interface under wordworth/terms.py."""

import copy
import unittest
from fractions import Fraction

from helpers import (
    assert_row, assert_same, is_right, machine, ratio, size_and_depth, some_machine, some_term, some_words,
    term_value, value_of, wide,
)
from wordworth.errors import BadStar, BadWord
from wordworth.machines import Machine
from wordworth.ratios import Ratio
from wordworth.terms import empty_number, machine_of, number_of, term_of
from wordworth.texts import read_sum, write_sum

A, B, C, D = (("letter", letter) for letter in "abcd")
EMPTY = ("number", Ratio(1))
NOTHING = ("number", Ratio(0))
TINY = ("number", Ratio(1, 10 ** 39))


def number(text):
    return ("number", ratio(text))


def right_terms(count, size=8, letters="ab"):
    """Terms without wrong stars."""
    found = []
    seed = 0
    while len(found) < count:
        term = some_term(seed, 1 + seed % size, letters)
        if is_right(term):
            found.append(term)
        seed += 1
    return found


def deep(term, times):
    """The term within so many others."""
    for at in range(times):
        term = (("row", A, term), ("plus", term, B), ("star", ("row", C, term)))[at % 3]
    return term


WRONG_STARS = [
    ("star", EMPTY), ("star", number("-1/3")), ("star", TINY), ("star", ("star", A)), ("star", ("star", NOTHING)),
    ("star", ("plus", A, EMPTY)), ("star", ("plus", ("plus", number("1/2"), number("-1/2")), TINY)),
    ("star", ("row", EMPTY, number(2))), ("star", ("row", ("star", A), ("star", B))),
    ("star", ("plus", ("star", A), ("row", number("-999/1000"), ("star", B)))),
]


class NumbersOfTerms(unittest.TestCase):
    def check(self, term, word, wanted):
        found = number_of(term, word)
        assert_row(self, (found,))
        assert_same(self, found, ratio(wanted))
        if word == "":
            assert_same(self, empty_number(term), found)

    def test_the_example_of_the_document(self):
        self.assertEqual(number_of(read_sum("(2.a+b)*"), "aba").text(), "4")

    def test_each_kind(self):
        for word in some_words(4, 3):
            self.check(number("-2/3"), word, 0 if word else "-2/3")
            self.check(NOTHING, word, 0)
            self.check(B, word, int(word == "b"))
            self.check(("plus", A, ("plus", A, EMPTY)), word, {"": 1, "a": 2}.get(word, 0))
            self.check(("row", A, ("row", number(3), B)), word, 3 * (word == "ab"))
            self.check(("star", ("row", A, B)), word, int(word == "ab" * (len(word) // 2)))
            self.check(("star", NOTHING), word, int(not word))

    def test_against_the_definition(self):
        for term in right_terms(120):
            told = copy.deepcopy(term)
            for word in some_words(2, 4):
                self.check(term, word, term_value(term, word))
            self.assertEqual(term, told)

    def test_nested_stars(self):
        inner = ("row", A, ("star", B))
        term = ("star", ("row", ("star", inner), C))
        for word in some_words(3, 4):
            self.check(term, word, term_value(term, word))
        self.check(("star", inner), "abbab", 1)
        self.check(("star", inner), "babb", 0)
        self.check(term, "abcac", 1)

    def test_a_star_over_parts_that_cancel(self):
        term = ("star", ("plus", ("plus", number("1/3"), A), number("-1/3")))
        for length in range(6):
            self.check(term, "a" * length, 1)
        self.check(("star", ("row", NOTHING, ("star", A))), "", 1)
        self.check(("star", ("row", NOTHING, ("star", A))), "a", 0)

    def test_a_word_with_letters_that_do_not_stand_in_the_term(self):
        term = ("star", A)
        for word in ("b", "d", "ab", "ca", "aadaa"):
            self.check(term, word, 0)

    def test_12_letters(self):
        term = read_sum("(1/2.a+b.(a+2.b)*.a)*+a*.b")
        for word in ("abbabaabbaba", "a" * 12, "b" * 12, "a" * 11 + "b"):
            self.check(term, word, value_of(machine_of(term, 2), word))
        self.check(("star", ("plus", A, ("row", A, A))), "a" * 12, 233)

    def test_20_deep_and_60_parts(self):
        term = deep(A, 19)
        self.assertEqual(size_and_depth(term)[1], 26)
        for word in ("", "a", "ab", "cab", "aab", "acab"):
            self.check(term, word, term_value(term, word))
        term = A
        for at in range(29):
            term = ("plus", term, A) if at % 10 else ("row", term, number("1/2"))
        self.assertEqual(size_and_depth(term)[0], 59)
        self.check(term, "a", term_value(term, "a"))

    def test_far_deeper_than_a_call_may_be(self):
        term = A
        for _ in range(3000):
            term = ("row", term, EMPTY)
        self.check(term, "a", 1)
        self.check(term, "", 0)
        self.assertLessEqual(machine_of(deep(A, 20), 4).size, 61)

    def test_numbers_of_40_digits(self):
        one, other = wide(1, 40), wide(2, 40)
        term = ("plus", ("row", number(Fraction(one, other)), A), ("row", A, number(Fraction(-other, one))))
        self.check(term, "a", Fraction(one, other) - Fraction(other, one))
        self.check(("star", term), "aa", (Fraction(one, other) - Fraction(other, one)) ** 2)

    def test_arguments_by_name(self):
        assert_same(self, empty_number(term=EMPTY), Ratio(1))
        assert_same(self, number_of(term=A, word="a"), Ratio(1))

    def test_asking_again_gives_the_same(self):
        for term in right_terms(20):
            first = [number_of(term, word) for word in some_words(2, 3)]
            assert_same(self, [number_of(term, word) for word in some_words(2, 3)], first)


class WrongStars(unittest.TestCase):
    def refused(self, term):
        told = copy.deepcopy(term)
        for ask in (
            lambda: empty_number(term), lambda: number_of(term, ""), lambda: number_of(term, "a"),
            lambda: number_of(term, "dcba" * 3), lambda: machine_of(term, 4),
        ):
            with self.assertRaises(BadStar) as context:
                ask()
            self.assertIsNone(context.exception.what)
        self.assertEqual(term, told)

    def test_alone(self):
        for wrong in WRONG_STARS:
            self.refused(wrong)

    def test_anywhere_in_the_term(self):
        for wrong in WRONG_STARS:
            self.refused(("plus", A, wrong))
            self.refused(("plus", wrong, A))
            self.refused(("row", A, wrong))
            self.refused(("row", wrong, A))
            self.refused(("star", ("row", A, wrong)))

    def test_deep_inside(self):
        for wrong in WRONG_STARS:
            for times in (1, 2, 3, 9):
                self.refused(deep(wrong, times))

    def test_within_a_part_that_gives_0(self):
        for wrong in WRONG_STARS:
            self.refused(("row", NOTHING, wrong))
            self.refused(("row", wrong, NOTHING))
            self.refused(("row", ("row", NOTHING, A), ("plus", B, wrong)))
            self.refused(("plus", ("row", wrong, NOTHING), ("row", NOTHING, wrong)))
            self.refused(("star", ("row", NOTHING, wrong)))

    def test_exactly_the_wrong_ones(self):
        right = wrong = 0
        for seed in range(300):
            term = some_term(seed, 1 + seed % 6)
            if is_right(term):
                empty_number(term)
                machine_of(term, 2)
                right += 1
            else:
                self.refused(term)
                wrong += 1
        self.assertGreater(min(right, wrong), 50)


class MachinesOfTerms(unittest.TestCase):
    def check(self, term, letters, length):
        told = copy.deepcopy(term)
        found = machine_of(term, letters)
        self.assertIs(type(found), Machine)
        self.assertEqual(found.letters, letters)
        self.assertLessEqual(found.size, 61)
        for word in some_words(letters, length):
            assert_same(self, (word, found.number(word)), (word, ratio(term_value(term, word))))
        self.assertEqual(term, told)
        self.assertEqual(machine_of(term=term, letters=letters).picture(), found.picture())

    def test_each_kind(self):
        for term in (NOTHING, number("-3/2"), A, ("plus", A, A), ("row", A, A), ("star", A), ("star", NOTHING)):
            for letters in (1, 2, 3, 4):
                self.check(term, letters, 3)

    def test_against_the_definition(self):
        for term in right_terms(60):
            self.check(term, 2, 4)
        for term in right_terms(15, letters="abcd"):
            self.check(term, 4, 3)
        for term in right_terms(15, letters="a"):
            self.check(term, 1, 6)
            self.check(term, 3, 2)

    def test_30_parts(self):
        for kind in ("plus", "row"):
            term = A
            for at in range(14):
                term = (kind, term, (A, B)[at % 2])
            self.assertEqual(size_and_depth(term), (29, 15))
            found = machine_of(term, 2)
            self.assertLessEqual(found.size, 61)
            for word in ("", "a", "b", "aababababababab", "abababababababa"):
                assert_same(self, found.number(word), ratio(1 * (kind == "row") * (word == "aababababababab")
                                                            + (kind == "plus") * {"a": 8, "b": 7}.get(word, 0)))
        term = A
        for at in range(9):
            term = ("star", ("row", (B, A)[at % 2], term))
        self.assertEqual(size_and_depth(term), (28, 19))
        self.check(term, 2, 3)
        for word in ("aaaaa", "babab", "bababababa", "bbabaab", "abababababab"):
            assert_same(self, machine_of(term, 2).number(word), number_of(term, word))

    def test_letters_that_are_not_of_the_alphabet(self):
        wrong = ("star", ("star", A))
        for term, letters, first in (
            (B, 1, "b"), (D, 3, "d"), (("plus", C, D), 2, "c"), (("plus", D, C), 2, "d"), (("plus", C, D), 3, "d"),
            (("row", ("plus", A, B), ("plus", D, C)), 1, "b"), (("row", ("plus", A, B), ("plus", D, C)), 2, "d"),
            (("star", ("row", NOTHING, ("row", A, D))), 3, "d"), (("row", NOTHING, C), 2, "c"),
            (("plus", wrong, C), 2, "c"), (("plus", C, wrong), 2, "c"), (("star", ("star", B)), 1, "b"),
            (("row", wrong, ("plus", ("star", C), D)), 2, "c"),
        ):
            told = copy.deepcopy(term)
            with self.assertRaises(BadWord) as context:
                machine_of(term, letters)
            self.assertEqual(context.exception.what, first)
            self.assertEqual(term, told)

    def test_a_wrong_star_after_all_letters_are_right(self):
        term = ("row", C, ("star", EMPTY))
        with self.assertRaises(BadWord):
            machine_of(term, 2)
        for letters in (3, 4):
            with self.assertRaises(BadStar):
                machine_of(term, letters)


class TermsOfMachines(unittest.TestCase):
    def check(self, one, length):
        told = one.picture()
        term = term_of(one)
        self.assertLessEqual(size_and_depth(term)[1], 100)
        self.check_kinds(term, one.letters)
        for word in some_words(one.letters, length):
            assert_same(self, number_of(term, word), ratio(value_of(one, word)))
        self.assertEqual(one.picture(), told)
        self.assertEqual(term_of(machine=one), term)
        return term

    def check_kinds(self, term, letters):
        waiting = [term]
        while waiting:
            part = waiting.pop()
            self.assertIs(type(part), tuple)
            if part[0] == "number":
                assert_row(self, part[1:])
            elif part[0] == "letter":
                self.assertIn(part[1], "abcd"[:letters])
            else:
                self.assertIn(part[0], ("plus", "row", "star"))
                waiting.extend(part[1:])
            self.assertEqual(len(part), {"plus": 3, "row": 3}.get(part[0], 2))

    def test_machines_of_0_to_4_states(self):
        for seed in range(30):
            letters, size = 1 + seed % 2, seed % 5
            term = self.check(some_machine(seed, letters, size, zeros=(seed % 4) * 25), 3)
            # number_of raises BadStar for a wrong star anywhere; this looks at small terms once more.
            if size < 3:
                self.assertTrue(is_right(term))

    def test_4_states_without_a_0(self):
        term = self.check(some_machine(1, 2, 4, zeros=0), 5)
        self.assertEqual(read_sum("a+b")[0], "plus")
        self.assertGreater(len(write_sum(term)), 400)

    def test_loops_that_count_for_much(self):
        self.check(machine(1, [1], [(["7/2"],)], [1]), 8)
        self.check(machine(2, [1, 0], [([1, 0], [0, 1]), ([1, 1], [0, 1])], [0, 1]), 6)
        self.check(machine(2, [1, -1], [([0, 1], [1, 0]), ([1, 0], [0, -1])], ["1/2", "1/2"]), 6)

    def test_machines_that_give_0(self):
        self.check(Machine(2, (), ((), ()), ()), 3)
        self.check(machine(1, [0], [([1],)], [1]), 3)
        self.check(machine(1, [1], [([1],)], [0]), 3)
        self.check(machine(2, [1, 1], [([0, 0], [0, 0]), ([0, 0], [0, 0])], [1, -1]), 3)

    def test_the_empty_word(self):
        for seed in range(10):
            one = some_machine(f"empty {seed}", 2, 3)
            assert_same(self, empty_number(term_of(one)), one.number(""))

    def test_4_letters(self):
        self.check(some_machine(2, 4, 2, zeros=0), 3)

    def test_there_and_back(self):
        for term in right_terms(25, size=2, letters="ab"):
            one = machine_of(term, 2)
            if one.size <= 4:
                again = self.check(one, 4)
                for word in some_words(2, 4):
                    assert_same(self, number_of(again, word), number_of(term, word))


if __name__ == "__main__":
    unittest.main()
