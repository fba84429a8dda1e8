"""Points 0.2, 0.5, 9.1, 9.2 and 9.3, and the interface under wordworth/learner.py."""

import unittest
from random import Random

from helpers import assert_row, carried, machine, none, some_machine, some_words, widened
from wordworth.alike import compare
from wordworth.errors import BadDeed, BadWord
from wordworth.learner import Learner
from wordworth.least import least, row_words
from wordworth.machines import Machine
from wordworth.mixing import constant, plus, scaled, single, star
from wordworth.ratios import Ratio


def first(one, other):
    """The first word with different numbers."""
    return compare(one, other)[1]


def differing(one, other, words):
    return [word for word in words if one.number(word) != other.number(word)]


def last_of(length):
    """A teacher who refuses with the last word of at most so many letters that will do, or else with the first one."""
    def choose(one, other):
        found = differing(one, other, some_words(one.letters, length))
        return found[-1] if found else first(one, other)
    return choose


def any_of(seed, length):
    """A teacher who refuses with a word that looks like chance."""
    chance = Random(seed)

    def choose(one, other):
        found = differing(one, other, some_words(one.letters, length))
        return chance.choice(found) if found else first(one, other)
    return choose


def long_ones(seed, length):
    """A teacher who refuses with words of so many letters, if one is found soon."""
    chance = Random(seed)

    def choose(one, other):
        for _ in range(20):
            word = "".join(chance.choice("abcd"[:one.letters]) for _ in range(length))
            if one.number(word) != other.number(word):
                return word
        return first(one, other) + "a" if differing(one, other, [first(one, other) + "a"]) else first(one, other)
    return choose


class Learning(unittest.TestCase):
    def learn(self, target, choose):
        """Teaches the machine, and counts all that point 9.2 bounds."""
        told = target.picture()
        rank = len(row_words(target))
        learner = Learner(target.letters)
        words, sizes, longest = {}, [], 0
        while learner.wish[0] != "done":
            kind, what = learner.wish
            self.assertIs(type(learner.wish), tuple)
            self.assertEqual(len(learner.wish), 2)
            self.assertIs(learner.wish[1], what)
            if kind == "word":
                self.assertIs(type(what), str)
                self.assertNotIn(what, words)
                self.assertLessEqual(len(what), longest + rank * rank)
                self.assertTrue(sizes)
                words[what] = target.number(what)
                self.assertIsNone(learner.tell(words[what]))
                continue
            self.assertEqual(kind, "proposal")
            self.check_proposal(what, target.letters, words)
            self.assertLessEqual(what.size, rank)
            self.assertTrue(not sizes or what.size > sizes[-1])
            sizes.append(what.size)
            if compare(target, what)[0] == "same":
                picture = what.picture()
                self.assertIsNone(learner.agree())
            else:
                self.assertLess(what.size, rank)
                word = choose(target, what)
                longest = max(longest, len(word))
                self.assertIsNone(learner.refuse(word))
        self.assertEqual(sizes[0], 0)
        self.assertLessEqual(len(sizes) - 1, rank)
        most = (target.letters + 1) * rank * rank + rank + rank * (rank + 1) * (longest + rank * rank + 1)
        self.assertLessEqual(len(words), most)
        self.assertEqual(learner.wish[0], "done")
        self.assertEqual(learner.wish[1].picture(), picture)
        self.assertEqual(compare(learner.wish[1], target)[0], "same")
        self.assertEqual(learner.wish[1].size, rank)
        self.assertEqual(target.picture(), told)
        return sizes, words

    def check_proposal(self, found, letters, words):
        self.assertIs(type(found), Machine)
        self.assertEqual(found.letters, letters)
        for line in (found.start, found.end, *[line for step in found.steps for line in step]):
            assert_row(self, line)
        self.assertEqual(len(row_words(found)), found.size)
        for word, number in words.items():
            self.assertEqual(found.number(word), number)

    def targets(self):
        for seed in range(12):
            yield some_machine(f"learner {seed}", 1 + seed % 4, seed % 5, zeros=30, most=3)
        for letters in range(1, 5):
            yield none(letters)
            yield constant(letters, Ratio(-3, 7))
            yield single(letters, "", Ratio(2))
            yield widened(some_machine(f"wide {letters}", letters, 2), letters, 3)
        yield constant(2, Ratio(0))
        yield single(2, "abba", Ratio(1))
        yield plus(single(3, "cb", Ratio(1)), star(single(3, "a", Ratio(1))))
        yield star(plus(single(2, "a", Ratio(1)), single(2, "ba", Ratio(-2))))
        yield machine(2, [1, 0], [([1, 1], [0, 1]), ([1, 0], [0, 1])], [0, 1])

    def test_teachers_who_refuse_with_the_first_word(self):
        for target in self.targets():
            self.learn(target, first)

    def test_teachers_who_refuse_with_the_last_word(self):
        for target in self.targets():
            self.learn(target, last_of(4 if target.letters < 3 else 3))

    def test_teachers_who_refuse_with_any_word(self):
        for seed in range(3):
            for target in self.targets():
                self.learn(target, any_of(seed, 4 if target.letters < 3 else 3))

    def test_teachers_who_refuse_with_long_words(self):
        for at, target in enumerate(self.targets()):
            self.learn(target, long_ones(at, 30))
        for letters in (1, 2, 4):
            self.learn(some_machine(f"long {letters}", letters, 3, zeros=0), long_ones(letters, 200))

    def test_teachers_who_change_their_ways(self):
        for target in self.targets():
            ways = [long_ones(1, 25), first, last_of(3), any_of(1, 3)]
            self.learn(target, lambda one, other: ways[other.size % 4](one, other))

    def test_rank_8(self):
        for letters in (1, 2, 4):
            target = some_machine(f"eight {letters}", letters, 8, zeros=20)
            self.learn(target, first)
            self.learn(carried(target, letters), long_ones(letters, 60))
        # A long way to the first word with a number, and no shorter one.
        self.learn(single(2, "abbabab", Ratio(-2, 9)), first)
        self.learn(plus(single(4, "dcbadca", Ratio(5)), none(4)), last_of(3))
        self.learn(single(1, "a" * 7, Ratio(1)), first)

    def test_numbers_whose_first_words_have_the_number_0(self):
        for word in ("b", "aab", "bbbb"):
            target = scaled(single(2, word, Ratio(1)), Ratio(1, 10 ** 50))
            sizes, words = self.learn(target, first)
            self.assertEqual(sizes[0], 0)
            self.assertIn(word, words)

    def test_the_first_wish_is_the_proposal_of_the_machine_without_states(self):
        for letters in range(1, 5):
            learner = Learner(letters)
            kind, found = learner.wish
            self.assertEqual(kind, "proposal")
            self.assertEqual(found.picture(), (letters, (), ((),) * letters, ()))
            learner.agree()
            self.assertEqual(learner.wish[0], "done")
            self.assertEqual(learner.wish[1].picture(), (letters, (), ((),) * letters, ()))

    def test_the_machine_is_learnt_even_if_all_refusals_are_the_same_word(self):
        # One word parts the target from all smaller machines that fit.
        target = machine(1, [1, 0], [([0, 1], [1, 1])], [0, 1])
        sizes, _ = self.learn(target, lambda one, other: next(
            word for word in ("a" * 20, *some_words(1, 9)) if one.number(word) != other.number(word)))
        self.assertLessEqual(len(sizes), 3)

    def test_few_words_are_asked(self):
        # Point 9.2 allows far more: of a long word only few beginnings are looked at.
        target = some_machine("few", 2, 4, zeros=0)
        _, words = self.learn(target, long_ones(1, 200))
        self.assertLess(len(words), 150)

    def test_long_numbers(self):
        long = Ratio(10 ** 1999 + 7, 10 ** 1999 + 9)
        self.learn(scaled(some_machine("numbers", 2, 2), long), first)
        self.learn(machine(1, [1, 0], [([0, 1], [1, 1])], [0, 1]), first)

    def test_asking_again_gives_the_same(self):
        target = some_machine("again", 2, 3)
        _, words = self.learn(target, first)
        _, again = self.learn(target, first)
        self.assertEqual(list(words), list(again))
        # The numbers alone decide, not the machine behind them.
        _, other = self.learn(least(widened(target, 1)), first)
        self.assertEqual(list(words), list(other))


class Deeds(unittest.TestCase):
    def state(self, learner):
        kind, what = learner.wish
        return kind, what if kind == "word" else what.picture()

    def refused(self, learner, call, *arguments):
        before = self.state(learner)
        with self.assertRaises(BadDeed) as context:
            call(*arguments)
        self.assertIsNone(context.exception.what)
        self.assertEqual(self.state(learner), before)

    def asked(self):
        """A learner whose wish is for a word."""
        learner = Learner(2)
        learner.refuse("ab")
        self.assertEqual(learner.wish, ("word", "ab"))
        return learner

    def test_deeds_that_are_not_due(self):
        learner = Learner(2)
        self.refused(learner, learner.tell, Ratio(1))
        learner = self.asked()
        self.refused(learner, learner.agree)
        self.refused(learner, learner.refuse, "a")
        learner = Learner(3)
        learner.agree()
        self.refused(learner, learner.tell, Ratio(1))
        self.refused(learner, learner.agree)
        self.refused(learner, learner.refuse, "a")

    def test_wrong_words(self):
        learner = Learner(2)
        for word in ("c", "abc", "A", " ", "a\n", "\u00e4", "d" * 200):
            before = self.state(learner)
            with self.assertRaises(BadWord) as context:
                learner.refuse(word)
            self.assertEqual(context.exception.what, word)
            self.assertEqual(self.state(learner), before)
        learner.refuse("abab")
        self.assertEqual(learner.wish[0], "word")
        with self.assertRaises(BadWord):
            Learner(1).refuse("b")
        Learner(4).refuse("dcba")

    def test_a_deed_that_is_not_due_comes_before_a_wrong_word(self):
        learner = self.asked()
        self.refused(learner, learner.refuse, "xyz")
        learner = Learner(1)
        learner.agree()
        self.refused(learner, learner.refuse, "b")

    def test_an_error_in_the_midst_of_learning_changes_nothing(self):
        target = some_machine("midst", 2, 3, zeros=0)
        quiet, loud = Learner(2), Learner(2)
        for _ in range(200):
            self.assertEqual(self.state(quiet), self.state(loud))
            kind, what = quiet.wish
            for call, arguments in ((loud.tell, (Ratio(5),)), (loud.agree, ()), (loud.refuse, ("abc",))):
                if (call == loud.tell) == (kind == "word") or call == loud.agree and kind == "proposal":
                    continue
                with self.assertRaises((BadDeed, BadWord)):
                    call(*arguments)
            if kind == "done":
                break
            for learner in (quiet, loud):
                if kind == "word":
                    learner.tell(target.number(what))
                elif compare(target, what)[0] == "same":
                    learner.agree()
                else:
                    learner.refuse(first(target, what))
        self.assertEqual(quiet.wish[0], "done")

    def test_two_learners_have_no_effect_on_each_other(self):
        one, other = Learner(2), Learner(2)
        one.refuse("a")
        one.tell(Ratio(3))
        self.assertEqual(other.wish[0], "proposal")
        self.assertEqual(other.wish[1].size, 0)
        other.refuse("b")
        self.assertEqual(other.wish, ("word", "b"))

    def test_answers_that_are_right_for_no_machine(self):
        for seed in range(20):
            chance = Random(seed)
            learner = Learner(1 + seed % 4)
            for _ in range(150):
                kind, what = learner.wish
                self.assertIn(kind, ("word", "proposal"))
                if kind == "word":
                    if chance.randrange(10) == 0:
                        self.refused(learner, learner.agree)
                        self.refused(learner, learner.refuse, "zz")
                    learner.tell(Ratio(chance.randint(-1, 2), chance.randint(1, 2)))
                else:
                    self.refused(learner, learner.tell, Ratio(1))
                    with self.assertRaises(BadWord):
                        learner.refuse("z")
                    if what.size > 8:
                        break
                    word = "".join(chance.choice("abcd"[:1 + seed % 4]) for _ in range(chance.randrange(6)))
                    learner.refuse(word)

    def test_a_teacher_who_refuses_without_reason(self):
        learner = Learner(2)
        for word in ("", "a", "", "ab", "a"):
            # Each word has the number 0, as the proposal says.
            self.assertEqual(learner.wish[0], "proposal")
            self.assertEqual(learner.wish[1].size, 0)
            learner.refuse(word)
            if learner.wish[0] == "word":
                self.assertEqual(learner.wish, ("word", word))
                learner.tell(Ratio(0))
        learner.agree()
        self.assertEqual(learner.wish[0], "done")


if __name__ == "__main__":
    unittest.main()
