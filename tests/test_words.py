"""Point 0.3, and the interface under wordworth/words.py."""

import itertools
import unittest

from wordworth.errors import BadWord
from wordworth.words import alphabet, check_word, comes_before, words_of


class Order(unittest.TestCase):
    def test_shorter_words_come_first(self):
        self.assertIs(comes_before("b", "aa"), True)
        self.assertIs(comes_before("aa", "b"), False)
        self.assertIs(comes_before("dd", "aaa"), True)
        self.assertIs(comes_before("aaa", "dd"), False)

    def test_words_of_one_length_as_python_compares(self):
        self.assertIs(comes_before("ab", "ba"), True)
        self.assertIs(comes_before("ba", "ab"), False)
        self.assertIs(comes_before("aab", "aac"), True)
        self.assertIs(comes_before("d", "c"), False)

    def test_equal_words(self):
        for word in ("", "a", "abcd", "ab" * 100):
            self.assertIs(comes_before(word, word), False)

    def test_the_empty_word(self):
        self.assertIs(comes_before("", "a"), True)
        self.assertIs(comes_before("a", ""), False)

    def test_a_word_that_begins_another_one(self):
        self.assertIs(comes_before("ab", "abc"), True)
        self.assertIs(comes_before("abc", "ab"), False)
        self.assertIs(comes_before("b", "ba"), True)

    def test_200_letters(self):
        self.assertIs(comes_before("a" * 199 + "b", "a" * 198 + "ba"), True)
        self.assertIs(comes_before("d" * 199, "a" * 200), True)
        self.assertIs(comes_before("a" * 200, "d" * 199), False)

    def test_it_is_the_order_of_lengths_and_then_of_letters(self):
        words = ["".join(signs) for many in range(4) for signs in itertools.product("abc", repeat=many)]
        for at, one in enumerate(words):
            for place, other in enumerate(words):
                self.assertIs(comes_before(one, other), at < place)

    def test_arguments_by_name(self):
        self.assertIs(comes_before(one="a", other="b"), True)


class WordsOf(unittest.TestCase):
    def test_ordinary(self):
        self.assertEqual(words_of(2, 2), ["aa", "ab", "ba", "bb"])
        self.assertEqual(words_of(4, 1), ["a", "b", "c", "d"])
        self.assertEqual(words_of(3, 2), ["aa", "ab", "ac", "ba", "bb", "bc", "ca", "cb", "cc"])
        self.assertEqual(words_of(letters=1, length=3), ["aaa"])

    def test_length_0(self):
        for letters in (1, 2, 3, 4):
            self.assertEqual(words_of(letters, 0), [""])

    def test_one_letter(self):
        for length in range(201):
            self.assertEqual(words_of(1, length), ["a" * length])

    def test_all_of_them_ascending(self):
        for letters, length in ((2, 12), (3, 7), (4, 6), (2, 5), (3, 1), (4, 3)):
            found = words_of(letters, length)
            self.assertIs(type(found), list)
            self.assertEqual(found, ["".join(x) for x in itertools.product("abcd"[:letters], repeat=length)])
            self.assertTrue(all(comes_before(one, other) for one, other in itertools.pairwise(found)))

    def test_a_new_list_at_each_call(self):
        for letters, length in ((2, 3), (1, 0), (1, 200)):
            found = words_of(letters, length)
            wanted = list(found)
            found.append("x")
            found[0] = "y"
            self.assertEqual(words_of(letters, length), wanted)


class Letters(unittest.TestCase):
    def test_alphabets(self):
        self.assertEqual([alphabet(letters) for letters in (1, 2, 3, 4)], ["a", "ab", "abc", "abcd"])

    def test_words_over_the_alphabet_are_taken(self):
        for letters, word in ((1, ""), (1, "aaa"), (2, "abba"), (4, "dcba"), (3, "c" * 200)):
            self.assertIsNone(check_word(letters, word))

    def test_other_words_are_refused(self):
        for letters, word in ((1, "b"), (2, "abc"), (3, "dab"), (4, "abcde"), (4, "A"), (4, " "), (4, "a\n")):
            with self.assertRaises(BadWord) as context:
                check_word(letters, word)
            self.assertEqual(context.exception.what, word)


if __name__ == "__main__":
    unittest.main()
