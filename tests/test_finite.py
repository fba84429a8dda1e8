"""Point 8.1 and the interface under wordworth/finite.py."""

import unittest

from helpers import assert_row, carried, machine, none, ratio, some_machine, some_words, value_of, widened
from wordworth.finite import finite
from wordworth.least import row_words
from wordworth.machines import Machine
from wordworth.mixing import constant, in_row, plus, scaled, single, star, turned
from wordworth.ratios import Ratio


def forward(seed, letters, size):
    """A machine whose letters lead to later states alone: only short words have numbers."""
    one = some_machine(seed, letters, size, zeros=20, most=3)
    steps = [
        [[number if place > at else Ratio(0) for place, number in enumerate(line)] for at, line in enumerate(step)]
        for step in one.steps
    ]
    return Machine(letters, one.start, steps, one.end)


def ring(many, word_end=0):
    """One letter: a circle of so many states, of which one is seen."""
    steps = [[int(place == (at + 1) % many) for place in range(many)] for at in range(many)]
    return machine(1, [1] + [0] * (many - 1), [steps], [int(at == word_end) for at in range(many)])


def shown(found):
    """The answer with the texts of the numbers."""
    return found if found[0] == "endless" else ("finite", tuple((word, number.text()) for word, number in found[1]))


class Finite(unittest.TestCase):
    def check(self, one):
        """Point 8.1, with all words of fewer than twice as many letters as the rank."""
        told = one.picture()
        found = finite(one)
        self.assertIs(type(found), tuple)
        self.assertEqual(len(found), 2)
        rank = len(row_words(one))
        longest = 2 * rank - 1 if one.letters < 3 else min(2 * rank - 1, 4)
        values = {word: value_of(one, word) for word in some_words(one.letters, longest)}
        seen = [word for word, number in values.items() if number != 0]
        if found[0] == "endless":
            self.assertIs(type(found[1]), str)
            self.assertTrue(rank <= len(found[1]) <= 2 * rank - 1)
            self.assertNotEqual(value_of(one, found[1]), 0)
            long = [word for word in seen if len(word) >= rank]
            self.assertEqual([found[1]] if len(found[1]) <= longest else [], long[:1])
        else:
            self.assertEqual(found[0], "finite")
            self.assertIs(type(found[1]), tuple)
            for pair in found[1]:
                self.assertIs(type(pair), tuple)
                word, number = pair
                self.assertIs(type(word), str)
                assert_row(self, (number,))
                self.assertEqual(number, ratio(values[word]))
            self.assertEqual([word for word, _ in found[1]], seen)
            self.assertTrue(all(len(word) < rank for word in seen))
        self.assertEqual(one.picture(), told)
        self.assertEqual(finite(machine=one), found)
        return found

    def test_machines_that_look_like_chance(self):
        for seed in range(20):
            self.check(some_machine(f"finite {seed}", 1 + seed % 4, seed % 4, zeros=70, most=2))

    def test_machines_that_go_forward_alone(self):
        for seed in range(20):
            one = forward(f"forward {seed}", 1 + seed % 4, 1 + seed % 4)
            self.assertEqual(self.check(one)[0], "finite")
            other = carried(one, seed)
            self.assertEqual(self.check(other), finite(one))
            self.assertEqual(self.check(widened(other, seed, 1)), finite(one))
            self.assertEqual(self.check(turned(widened(turned(one), seed, 1))), finite(one))

    def test_no_words(self):
        for one in (none(1), none(4), constant(2, Ratio(0)), widened(constant(3, Ratio(0)), 1),
                    machine(1, [1, 1], [([2, 0], [0, 2])], [1, -1])):
            self.assertEqual(self.check(one), ("finite", ()))

    def test_the_empty_word_alone(self):
        for letters in range(1, 5):
            found = self.check(single(letters, "", Ratio(-2, 3)))
            self.assertEqual(shown(found), ("finite", (("", "-2/3"),)))
        self.assertEqual(shown(finite(machine(1, [1, 1], [([0, 3], [0, 0])], [1, 0]))), ("finite", (("", "1"),)))

    def test_the_longest_word_has_one_letter_less_than_the_rank(self):
        for word in ("a", "ba", "abb", "babab"):
            one = single(2, word, Ratio(5))
            self.assertEqual(len(row_words(one)), len(word) + 1)
            self.assertEqual(shown(self.check(one)), ("finite", ((word, "5"),)))
        both = plus(single(2, "ab", Ratio(1)), plus(single(2, "b", Ratio(2)), single(2, "ba", Ratio(-1, 7))))
        self.assertEqual(shown(self.check(both)), ("finite", (("b", "2"), ("ab", "1"), ("ba", "-1/7"))))

    def test_all_words_of_fewer_letters_than_the_rank(self):
        ones = [[int(place == at + 1) for place in range(6)] for at in range(6)]
        one = machine(4, [1, 0, 0, 0, 0, 0], [ones] * 4, [1, 1, 1, 1, 1, 1])
        found = finite(carried(one, 1))
        self.assertEqual(shown(found), ("finite", tuple((word, "1") for word in some_words(4, 5))))
        self.assertEqual(len(found[1]), 1365)

    def test_words_ascend_by_length_first(self):
        one = plus(plus(single(2, "b", Ratio(1)), single(2, "aa", Ratio(2))), single(2, "", Ratio(3)))
        self.assertEqual(shown(self.check(one)), ("finite", (("", "3"), ("b", "1"), ("aa", "2"))))

    def test_endless_with_as_many_letters_as_the_rank(self):
        self.assertEqual(self.check(constant(2, Ratio(1, 9))), ("endless", "a"))
        self.assertEqual(self.check(machine(2, [3], [([0],), ([1],)], [1])), ("endless", "b"))
        self.assertEqual(self.check(star(single(2, "b", Ratio(1)))), ("endless", "b"))
        self.assertEqual(self.check(machine(1, [1, 0], [([1, 1], [0, 1])], [0, 1])), ("endless", "aa"))
        for many in range(1, 6):
            self.assertEqual(self.check(ring(many)), ("endless", "a" * many))

    def test_endless_with_2_n_less_1_letters(self):
        for many in range(1, 7):
            self.assertEqual(self.check(ring(many, many - 1)), ("endless", "a" * (2 * many - 1)))
        # Over two letters: a circle through which only one word leads.
        for word in ("b", "ab", "bba", "abab"):
            many = len(word)
            steps = [
                [[int(place == (at + 1) % many and word[at] == letter) for place in range(many)] for at in range(many)]
                for letter in "ab"
            ]
            one = machine(2, [1] + [0] * (many - 1), steps, [0] * (many - 1) + [1])
            self.assertEqual(len(row_words(one)), many)
            self.assertEqual(self.check(one), ("endless", word + word[:-1]))

    def test_the_first_word_is_not_the_first_one_of_its_way(self):
        # Words of two letters: ba is the first one that counts, and all longer ones begin with b.
        one = in_row(single(2, "b", Ratio(1)), star(single(2, "a", Ratio(1))))
        self.assertEqual(self.check(one), ("endless", "ba"))
        # The numbers of the words that begin with a come to nothing together, but not each of them.
        two = machine(2, [1, 0], [([0, 1], [0, 1]), ([0, -1], [0, 1])], [0, 1])
        self.assertEqual(self.check(two), ("endless", "aa"))
        three = plus(star(single(2, "b", Ratio(1))), single(2, "aaa", Ratio(1)))
        self.assertEqual(self.check(three), ("endless", "b" * len(row_words(three))))

    def test_rows_that_cancel(self):
        # By each way alone there are endless words, but together they come to nothing from two letters on.
        one = plus(machine(1, [1, 0], [([0, 1], [0, 1])], [1, 1]), scaled(constant(1, Ratio(1)), Ratio(-1)))
        self.assertEqual(self.check(one), ("finite", ()))
        two = plus(plus(constant(2, Ratio(4)), single(2, "ab", Ratio(1))), constant(2, Ratio(-4)))
        self.assertEqual(shown(self.check(two)), ("finite", (("ab", "1"),)))

    def test_six_states_and_four_letters(self):
        one = some_machine("six", 4, 6, zeros=0)
        self.assertEqual(finite(one), ("endless", "aaaaaa"))
        steps = [[[int(place == (at + 1) % 6 and letter == "d") for place in range(6)] for at in range(6)]
                 for letter in "abcd"]
        one = machine(4, [1, 0, 0, 0, 0, 0], steps, [0, 0, 0, 0, 0, 1])
        self.assertEqual(finite(carried(one, 2)), ("endless", "d" * 11))

    def test_long_numbers(self):
        long = Ratio(10 ** 1999 + 7, 10 ** 1999 + 9)
        self.assertEqual(finite(single(2, "ab", long)), ("finite", (("ab", long),)))
        self.assertEqual(finite(constant(2, long)), ("endless", "a"))


if __name__ == "__main__":
    unittest.main()
