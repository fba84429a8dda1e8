"""Points 0.4, 0.5 and 2.1, and the interface under wordworth/machines.py."""

import unittest
from fractions import Fraction

from helpers import (
    assert_row, assert_same, assert_table, machine, plain, plain_table, product_of, ratio, row, some_machine,
    some_table, some_words, table, value_of, wide,
)
from wordworth.errors import BadMachine, BadWord
from wordworth.machines import Machine, check_same_letters
from wordworth.ratios import Ratio
from wordworth.tables import unit


def counter():
    """A machine of 2 letters that counts the letters b."""
    return machine(2, [1, 0], [([1, 0], [0, 1]), ([1, 1], [0, 1])], [0, 1])


def parts_of(letters, size):
    """Right parts of a machine, in lists of lists."""
    start = [Ratio(at, 2) for at in range(size)]
    steps = [[[Ratio(letter + at, place + 1) for place in range(size)] for at in range(size)]
             for letter in range(letters)]
    return letters, start, steps, [Ratio(1, at + 1) for at in range(size)]


class Parts(unittest.TestCase):
    def check_parts(self, found, letters, size):
        self.assertEqual(found.letters, letters)
        self.assertEqual(found.size, size)
        self.assertIs(type(found.size), int)
        assert_row(self, found.start)
        assert_row(self, found.end)
        self.assertIs(type(found.steps), tuple)
        self.assertEqual(len(found.steps), letters)
        for step in found.steps:
            assert_table(self, step)
            self.assertEqual([len(line) for line in step], [size] * size)

    def test_attributes_are_tuples_throughout(self):
        for letters in (1, 2, 3, 4):
            for size in (0, 1, 2, 5):
                count, start, steps, end = parts_of(letters, size)
                ways = [
                    (start, steps, end),
                    (tuple(start), tuple(tuple(map(tuple, step)) for step in steps), tuple(end)),
                    (tuple(start), [tuple(map(tuple, step)) for step in steps], end),
                    (start, tuple(list(map(tuple, step)) for step in steps), tuple(end)),
                    (start, tuple(tuple(map(list, step)) for step in steps), end),
                ]
                for way in ways:
                    found = Machine(count, *way)
                    self.check_parts(found, letters, size)
                    assert_same(self, found.start, tuple(start))
                    assert_same(self, found.end, tuple(end))
                    assert_same(self, found.steps, tuple(tuple(map(tuple, step)) for step in steps))

    def test_arguments_by_name(self):
        one = counter()
        found = Machine(end=one.end, steps=one.steps, start=one.start, letters=2)
        self.assertEqual(found.picture(), one.picture())

    def test_lists_that_are_passed_stay_and_may_be_changed_afterwards(self):
        letters, start, steps, end = parts_of(2, 3)
        found = Machine(letters, start, steps, end)
        self.assertEqual((letters, start, steps, end), parts_of(2, 3))
        told, number = found.picture(), found.number("abba")
        start[0] = Ratio(77)
        start.append(Ratio(1))
        end.clear()
        steps[0][1][2] = Ratio(99)
        steps[0][0].append(Ratio(5))
        steps[1].pop()
        steps.append([])
        self.assertEqual(found.picture(), told)
        assert_same(self, found.number("abba"), number)
        assert_same(self, Machine(*parts_of(2, 3)).number("abba"), number)
        self.check_parts(found, 2, 3)

    def test_two_machines_have_no_effect_on_each_other(self):
        one = Machine(*parts_of(2, 2))
        told = one.number("ab")
        other = Machine(2, *[(), ((), ()), ()])
        other.number("ab")
        Machine(one.letters, one.start, one.steps[::-1], one.end).number("ab")
        assert_same(self, one.number("ab"), told)


class WrongParts(unittest.TestCase):
    def refused(self, *parts):
        with self.assertRaises(BadMachine) as context:
            Machine(*parts)
        self.assertIsNone(context.exception.what)

    def test_letters(self):
        for letters in (0, 5, -1, 100, -4):
            for count in {0, 1, 4, max(letters, 0)}:
                for size in (0, 1, 2):
                    self.refused(letters, *parts_of(count, size)[1:])

    def test_start_and_end_of_another_length(self):
        for letters in (1, 4):
            for size in (0, 1, 3):
                _, start, steps, end = parts_of(letters, size)
                self.refused(letters, start + [Ratio(0)], steps, end)
                self.refused(letters, start, steps, end + [Ratio(0)])
                self.refused(letters, start + [Ratio(0)], steps, end + [Ratio(0)])
                if size:
                    self.refused(letters, start[1:], steps, end)
                    self.refused(letters, start, steps, end[1:])
                    self.refused(letters, start[1:], steps, end[1:])
                    self.refused(letters, [], steps, [])

    def test_steps_too_few_or_too_many(self):
        for letters in (1, 2, 3, 4):
            for size in (0, 1, 3):
                _, start, steps, end = parts_of(letters, size)
                self.refused(letters, start, steps[1:], end)
                self.refused(letters, start, steps + steps[:1], end)
                self.refused(letters, start, [], end)
                self.refused(letters, start, tuple(steps + steps), end)

    def test_a_step_with_a_row_too_few_or_too_many(self):
        for letters in (1, 3):
            for at in range(letters):
                for size in (1, 2, 3):
                    _, start, steps, end = parts_of(letters, size)
                    more = [list(step) for step in steps]
                    more[at].append(more[at][0])
                    self.refused(letters, start, more, end)
                    fewer = [list(step) for step in steps]
                    fewer[at].pop()
                    self.refused(letters, start, fewer, end)
        self.refused(1, [], [[[]]], [])
        self.refused(2, [], [[], [[Ratio(1)]]], [])
        self.refused(1, [Ratio(1)], [[]], [Ratio(1)])

    def test_a_row_too_short_or_too_long(self):
        for letters in (1, 3):
            for letter in range(letters):
                for size in (1, 2, 3):
                    for at in range(size):
                        _, start, steps, end = parts_of(letters, size)
                        steps[letter][at].append(Ratio(0))
                        self.refused(letters, start, steps, end)
                        del steps[letter][at][-2:]
                        self.refused(letters, start, steps, end)

    def test_a_call_that_is_refused_changes_nothing(self):
        letters, start, steps, end = parts_of(2, 2)
        self.refused(3, start, steps, end)
        self.assertEqual((letters, start, steps, end), parts_of(2, 2))


class Numbers(unittest.TestCase):
    def test_ordinary(self):
        one = counter()
        for word in some_words(2, 6):
            assert_same(self, one.number(word), Ratio(word.count("b")))
            assert_same(self, one(word), Ratio(word.count("b")))
        assert_same(self, one.row("ab"), row(1, 1))
        assert_same(self, one.column("bb"), row(2, 1))
        assert_same(self, one.table("bab"), table([1, 2], [0, 1]))

    def test_the_order_of_the_letters(self):
        one = machine(2, [1, 0], [([0, 1], [0, 0]), ([0, 0], [0, 3])], [0, "1/2"])
        assert_same(self, one.number("ab"), Ratio(3, 2))
        assert_same(self, one.number("ba"), Ratio(0))
        assert_same(self, one.table("ab"), table([0, 3], [0, 0]))
        assert_same(self, one.row("abb"), row(0, 9))
        assert_same(self, one.column("ab"), row("3/2", 0))

    def test_the_empty_word(self):
        for size in (1, 2, 4):
            one = some_machine(size, 2, size)
            assert_same(self, one.row(""), one.start)
            assert_same(self, one.column(""), one.end)
            assert_same(self, one.table(""), unit(size))
            assert_same(self, one.number(""), ratio(value_of(one, "")))

    def test_size_0(self):
        for letters in (1, 4):
            one = Machine(letters, (), ((),) * letters, [])
            self.assertEqual(one.size, 0)
            for word in ("", "a", "aaa", "a" * 200):
                assert_same(self, one.number(word), Ratio(0))
                assert_same(self, one(word), Ratio(0))
                for found in (one.row(word), one.column(word), one.table(word)):
                    self.assertIs(type(found), tuple)
                    self.assertEqual(found, ())
            with self.assertRaises(BadWord):
                one.number("e")
            self.assertEqual(one.picture(), (letters, (), ((),) * letters, ()))

    def test_against_the_definition(self):
        for seed in range(12):
            letters, size = 1 + seed % 4, 1 + seed % 5
            one = some_machine(seed, letters, size)
            for word in some_words(letters, 3) + ["a" * 9]:
                found = one.number(word)
                assert_row(self, (found, one(word)))
                assert_same(self, found, ratio(value_of(one, word)))
                assert_same(self, one(word), found)
                line, column, square = one.row(word), one.column(word), one.table(word)
                assert_row(self, line)
                assert_row(self, column)
                assert_table(self, square)
                wanted = plain_table(unit(size))
                for letter in word:
                    wanted = product_of(wanted, plain_table(one.steps["abcd".index(letter)]))
                assert_same(self, plain_table(square), wanted)
                assert_same(self, [plain(line)], product_of([plain(one.start)], wanted))
                assert_same(self, [[number] for number in plain(column)],
                            product_of(wanted, [[number] for number in plain(one.end)]))

    def test_steps_of_many_bottoms(self):
        one = machine(1, ["1/2", "1/3"], [(["1/5", "2/7"], ["-3/11", "1/13"])], ["1/17", "-1/19"])
        for length in range(8):
            assert_same(self, one.number("a" * length), ratio(value_of(one, "a" * length)))
        assert_same(self, one.row("a"), row("1/110", "46/273"))

    def test_200_letters(self):
        one = machine(1, [3], [(["2/3"],)], ["1/2"])
        assert_same(self, one.number("a" * 200), Ratio(3 * 2 ** 200, 2 * 3 ** 200))
        word = "abcd" * 50
        other = some_machine(3, 4, 3)
        assert_same(self, other.number(word), ratio(value_of(other, word)))

    def test_20_states_and_200_letters(self):
        one = some_machine(4, 4, 20, zeros=0)
        self.assertEqual(one.size, 20)
        word = "dabcaadc" * 25
        number = one.number(word)
        assert_same(self, number, ratio(value_of(one, word)))
        ends = [sum((mine * its for mine, its in zip(plain(one.row(word)), plain(one.end))), Fraction(0))]
        assert_same(self, ends, plain((number,)))
        starts = [sum((mine * its for mine, its in zip(plain(one.start), plain(one.column(word)))), Fraction(0))]
        assert_same(self, starts, plain((number,)))
        square = one.table(word)
        assert_table(self, square)
        assert_same(self, product_of([plain(one.start)], plain_table(square))[0], plain(one.row(word)))

    def test_more_than_20_states(self):
        size = 41
        step = tuple(tuple(Ratio(int(place == at + 1)) for place in range(size)) for at in range(size))
        one = Machine(1, (Ratio(1),) + (Ratio(0),) * 40, (step,), (Ratio(0),) * 40 + (Ratio(2, 3),))
        self.assertEqual([one.number("a" * at).text() for at in (39, 40, 41)], ["0", "2/3", "0"])

    def test_numbers_of_2000_digits(self):
        top, bottom = wide(1), wide(2)
        one = machine(1, [Fraction(top, bottom)], [([Fraction(-bottom, wide(3))],)], [1])
        assert_same(self, one.number("aa"), ratio(value_of(one, "aa")))
        assert_same(self, one.table("a"), table([Fraction(-bottom, wide(3))]))
        steps = [some_table(6, 2, 2, most=10 ** 2000 - 1)]
        other = Machine(1, *some_table(5, 1, 2), steps, *some_table(7, 1, 2, most=10 ** 2000 - 1))
        for word in ("", "a", "aa"):
            assert_same(self, other.number(word), ratio(value_of(other, word)))

    def test_arguments_by_name(self):
        one = counter()
        assert_same(self, one.number(word="b"), Ratio(1))
        assert_same(self, one(word="b"), Ratio(1))
        assert_same(self, one.row(word="b"), row(1, 1))
        assert_same(self, one.column(word="b"), row(1, 1))
        assert_same(self, one.table(word="b"), table([1, 1], [0, 1]))

    def test_asking_again_gives_the_same(self):
        one = some_machine(8, 3, 4)
        told = one.picture()
        words = some_words(3, 3)
        answers = [(one.number(word), one.row(word), one.column(word), one.table(word)) for word in words]
        again = [(one.number(word), one.row(word), one.column(word), one.table(word)) for word in reversed(words)]
        assert_same(self, again[::-1], answers)
        self.assertEqual(one.picture(), told)


class WrongWords(unittest.TestCase):
    def refused(self, one, word):
        for ask in (one.number, one, one.row, one.column, one.table):
            with self.assertRaises(BadWord) as context:
                ask(word)
            self.assertIs(type(context.exception), BadWord)
            self.assertEqual(context.exception.what, word)

    def test_a_letter_of_a_larger_alphabet(self):
        for letters, other in ((1, "b"), (2, "c"), (3, "d"), (4, "e")):
            one = some_machine(9, letters, 2)
            for word in (other, other + "a", "a" + other, "a" + other + "a", "aa" + other + "aa" + other):
                self.refused(one, word)

    def test_other_characters(self):
        one = some_machine(10, 4, 1)
        for sign in ("A", " ", "\n", "0", "-", ".", "(", "\x00", "\xe4", "\u0430", "\U0001f600"):
            for word in (sign, sign + "abcd", "ab" + sign + "cd", "abcd" + sign):
                self.refused(one, word)

    def test_long_words(self):
        one = some_machine(11, 2, 3)
        for word in ("c" + "a" * 199, "a" * 100 + "c" + "a" * 99, "a" * 199 + "c", "?" * 200):
            self.refused(one, word)

    def test_an_error_changes_nothing(self):
        one = some_machine(12, 2, 3)
        answer = one.number("ab")
        self.refused(one, "abc")
        assert_same(self, one.number("ab"), answer)


class Pictures(unittest.TestCase):
    def test_ordinary(self):
        one = machine(2, ["1/2", -3], [(["4/6", 0], [1, -1]), ([2, "-7/3"], [0, 0])], [0, "10/5"])
        self.assertEqual(one.picture(), (
            2, ("1/2", "-3"), ((("2/3", "0"), ("1", "-1")), (("2", "-7/3"), ("0", "0"))), ("0", "2"),
        ))

    def test_kinds(self):
        letters, start, steps, end = some_machine(13, 3, 2).picture()
        self.assertIs(type(letters), int)
        for kept in (start, steps, end) + steps + tuple(line for step in steps for line in step):
            self.assertIs(type(kept), tuple)
        for text in start + end + tuple(text for step in steps for line in step for text in line):
            self.assertIs(type(text), str)

    def test_2000_digits(self):
        top, bottom = wide(4), wide(5)
        one = Machine(1, [Ratio(top)], [[[Ratio(-1, bottom)]]], [Ratio(0)])
        self.assertEqual(one.picture(), (1, (str(top),), (((f"-1/{bottom}",),),), ("0",)))

    def test_asking_again_gives_the_same(self):
        one = some_machine(14, 2, 20)
        told = one.picture()
        one.number("ab")
        self.assertEqual(one.picture(), told)


class SameLetters(unittest.TestCase):
    def test_alphabets(self):
        for one in range(1, 5):
            for other in range(1, 5):
                machines = some_machine(1, one, 1), some_machine(2, other, 2)
                if one == other:
                    self.assertIsNone(check_same_letters(*machines))
                else:
                    with self.assertRaises(BadMachine):
                        check_same_letters(*machines)


if __name__ == "__main__":
    unittest.main()
