"""Points 0.3, 0.5, 5.1, 5.2, 5.3 and 5.4, and the interface under wordworth/least.py."""

import unittest
from fractions import Fraction

from helpers import (
    assert_same, assert_table, carried, first_ones, machine, none, plain, plain_table, product_of, rank_of, ratio,
    some_machine, some_table, some_words, table, value_of, widened,
)
from wordworth.alike import compare
from wordworth.cores import core, sight
from wordworth.errors import BadMachine
from wordworth.least import carry, column_words, is_carry, is_corner, least, row_words
from wordworth.machines import Machine
from wordworth.mixing import constant, in_row, plus, scaled, single, star, turned
from wordworth.ratios import Ratio
from wordworth.tables import inverse, times, unit


def unseen(one, seed, more=2):
    """A machine with the same numbers and more states, of which the end sees nothing."""
    return turned(widened(turned(one), seed, more))


def loose_machines():
    """Machines of up to 4 states, many of them with more states than their rank."""
    for seed in range(12):
        one = some_machine(f"least {seed}", 1 + seed % 3, seed % 4, zeros=55, most=2)
        yield one
        yield widened(one, seed, 1)
        yield unseen(one, seed, 1)
        yield carried(unseen(widened(one, seed, 1), seed, 1), seed)
    yield from rankless()
    yield constant(3, Ratio(2))
    yield plus(constant(2, Ratio(2)), constant(2, Ratio(-1)))
    yield single(2, "ba", Ratio(3))
    yield plus(single(2, "ab", Ratio(1)), single(2, "ba", Ratio(1)))
    yield star(single(2, "b", Ratio(-2)))


def rankless():
    """Machines that give all words 0."""
    yield none(1)
    yield none(4)
    yield machine(2, [0, 0], [([1, 2], [3, 4])] * 2, [1, 1])
    yield machine(2, [1, 1], [([1, 2], [3, 4])] * 2, [0, 0])
    yield machine(1, [1, 1], [([2, 0], [0, 2])], [1, -1])
    yield machine(2, [1, 0], [([1, 1], [0, 0])] * 2, [0, 0])


def row_words_of(one, longest=None):
    """Point 5.1: the words whose numbers, with all words behind them, no earlier ones add up to.

    The words looked at have fewer letters than the machine has states, or at most so many as told.
    """
    words = some_words(one.letters, one.size - 1 if longest is None else longest)
    return first_ones({word: [value_of(one, word + tail) for tail in words] for word in words})


def column_words_of(one, longest=None):
    words = some_words(one.letters, one.size - 1 if longest is None else longest)
    return first_ones({word: [value_of(one, head + word) for head in words] for word in words})


def small_ones():
    return [one for one in loose_machines() if one.size ** one.letters <= 27]


class Words(unittest.TestCase):
    def test_row_words_and_column_words_against_their_definition(self):
        for one in small_ones():
            told = one.picture()
            for found, wanted in ((row_words(one), row_words_of(one)), (column_words(one), column_words_of(one))):
                self.assertIs(type(found), list)
                self.assertEqual(found, wanted)
                self.assertTrue(all(type(word) is str for word in found))
            self.assertEqual(one.picture(), told)

    def test_words_that_are_known(self):
        one = single(3, "cab", Ratio(5))
        self.assertEqual(row_words(one), ["", "c", "ca", "cab"])
        self.assertEqual(column_words(one), ["", "b", "ab", "cab"])
        two = plus(single(2, "ab", Ratio(1)), single(2, "ba", Ratio(1)))
        self.assertEqual(row_words(two), ["", "a", "b", "ab"])
        self.assertEqual(column_words(two), ["", "a", "b", "ab"])
        self.assertEqual(row_words(constant(4, Ratio(-1, 3))), [""])
        # The numbers of a word and of the word behind b are the same: b is out, and all words that begin with it.
        self.assertEqual(row_words(in_row(star(single(2, "b", Ratio(1))), single(2, "aa", Ratio(1)))), ["", "a", "aa"])

    def test_words_ascend_by_length_first(self):
        # b is earlier than aa, and ab than ba, on both sides.
        one = plus(plus(single(2, "aab", Ratio(1)), single(2, "bba", Ratio(2))), single(2, "baa", Ratio(3)))
        self.assertEqual(row_words(one), row_words_of(one, 3))
        self.assertEqual(column_words(one), column_words_of(one, 3))
        for words in (row_words(one), column_words(one)):
            self.assertEqual(words, sorted(words, key=lambda word: (len(word), word)))

    def test_beginnings_and_endings(self):
        for one in loose_machines():
            rows, columns = row_words(one), column_words(one)
            self.assertEqual(len(rows), len(columns))
            self.assertLessEqual(len(rows), one.size)
            self.assertTrue(all(word[:-1] in rows for word in rows if word))
            self.assertTrue(all(word[1:] in columns for word in columns if word))
            self.assertTrue(all(len(word) < len(rows) for word in rows + columns))

    def test_the_numbers_alone_decide(self):
        for seed in range(8):
            one = some_machine(seed, 1 + seed % 4, 1 + seed % 3)
            for other in (carried(one, seed), widened(one, seed), unseen(one, seed), turned(turned(one))):
                self.assertEqual(row_words(other), row_words(one))
                self.assertEqual(column_words(other), column_words(one))

    def test_rankless_machines(self):
        for one in rankless():
            self.assertEqual(row_words(one), [])
            self.assertEqual(column_words(one), [])

    def test_lists_that_are_returned_may_be_changed(self):
        one = some_machine(5, 2, 3)
        for words in (row_words, column_words):
            first = words(one)
            kept = list(first)
            first.append("zzz")
            first[0] = "no"
            self.assertEqual(words(one), kept)
            self.assertEqual(words(machine=one), kept)

    def test_20_states(self):
        for letters in (1, 2, 4):
            one = some_machine(f"20 {letters}", letters, 20, zeros=0)
            rows, columns = row_words(one), column_words(one)
            self.assertEqual((len(rows), len(columns)), (20, 20))
            if letters == 1:
                self.assertEqual(rows, ["a" * many for many in range(20)])
                self.assertEqual(columns, rows)
            else:
                # Chance leaves no word out before the rank is full.
                self.assertEqual(rows, some_words(letters, 4)[:20])
                self.assertEqual(columns, some_words(letters, 4)[:20])
        few = some_machine("few", 2, 5)
        wide = carried(unseen(widened(few, 1, 7), 2, 8), 3)
        self.assertEqual(wide.size, 20)
        self.assertEqual(row_words(wide), row_words(few))
        self.assertEqual(column_words(wide), column_words(few))


class Least(unittest.TestCase):
    def check(self, one):
        told = one.picture()
        found = least(one)
        self.assertIs(type(found), Machine)
        words = row_words(one)
        self.assertEqual((found.letters, found.size), (one.letters, len(words)))
        for step in found.steps:
            assert_table(self, step)
        for at, word in enumerate(words):
            self.assertEqual(found.row(word), unit(len(words))[at])
        self.assertEqual(compare(found, one)[0], "same")
        self.assertEqual(one.picture(), told)
        self.assertEqual(least(one).picture(), found.picture())
        return found

    def test_the_rows_of_the_row_words_and_the_numbers(self):
        for one in loose_machines():
            found = self.check(one)
            for word in some_words(one.letters, 4 if one.letters < 3 else 2):
                self.assertEqual(value_of(found, word), value_of(one, word))

    def test_the_same_from_machines_that_are_alike(self):
        for seed in range(10):
            one = some_machine(f"alike {seed}", 1 + seed % 4, seed % 4, zeros=40)
            picture = self.check(one).picture()
            for other in (carried(one, seed), widened(one, seed), unseen(one, seed), least(one)):
                self.assertEqual(self.check(other).picture(), picture)
            both = plus(scaled(one, Ratio(1, 3)), scaled(carried(one, seed + 1), Ratio(2, 3)))
            self.assertEqual(self.check(both).picture(), picture)

    def test_machines_that_are_not_alike_have_other_least_machines(self):
        for word in ("", "a", "ba", "bab"):
            one = some_machine(word, 2, 3)
            other = plus(one, single(2, word, Ratio(1, 9)))
            self.assertNotEqual(least(one).picture(), least(other).picture())

    def test_a_least_machine_number_by_number(self):
        # The numbers of a^m are 1, 1, 2, 3, 5 and so on, by a machine of four states.
        one = machine(1, [1, 0, 5, 0], [([1, 1, 0, 1], [1, 0, 0, 2], [0, 0, 7, 1], [0, 0, 0, 3])], [1, 0, 0, 0])
        self.assertEqual(self.check(one).picture(), (1, ("1", "0"), ((("0", "1"), ("1", "1")),), ("1", "1")))
        self.assertEqual(self.check(constant(2, Ratio(-3, 7))).picture(), (2, ("1",), ((("1",),),) * 2, ("-3/7",)))
        wanted = (1, ("1", "0"), ((("0", "1"), ("0", "0")),), ("0", "4"))
        self.assertEqual(self.check(scaled(single(1, "a", Ratio(2)), Ratio(2))).picture(), wanted)

    def test_rankless_machines(self):
        for one in rankless():
            self.assertEqual(self.check(one).picture(), (one.letters, (), ((),) * one.letters, ()))

    def test_20_states(self):
        for letters in (1, 4):
            one = some_machine(f"20 {letters}", letters, 20, zeros=0)
            found = self.check(one)
            self.assertEqual(self.check(carried(one, letters)).picture(), found.picture())
        few = some_machine("few", 3, 4)
        wide = carried(unseen(widened(few, 4, 9), 5, 7), 6)
        self.assertEqual(wide.size, 20)
        self.assertEqual(least(wide).picture(), least(few).picture())
        long = single(2, "ab" * 9 + "a", Ratio(1, 3))
        self.assertEqual(self.check(long).size, 20)

    def test_long_numbers(self):
        long = Ratio(10 ** 1999 + 7, 10 ** 1999 + 9)
        one = some_machine("long", 2, 3)
        self.assertEqual(self.check(scaled(one, long)).steps, least(one).steps)
        found = self.check(Machine(1, (long, Ratio(1)), [((Ratio(0), long), (Ratio(1), Ratio(0)))], (long, Ratio(0))))
        self.assertEqual(found.size, 2)


class Corners(unittest.TestCase):
    def check(self, one, rows, columns, wanted):
        told = one.picture(), list(rows), list(columns)
        found = is_corner(one, rows, columns)
        self.assertIs(found, wanted)
        self.assertEqual((one.picture(), rows, columns), told)
        self.assertIs(is_corner(machine=one, rows=rows, columns=columns), wanted)

    def test_row_words_and_column_words(self):
        for one in loose_machines():
            rows, columns = row_words(one), column_words(one)
            self.check(one, rows, columns, True)
            self.check(one, rows[::-1], columns[1:] + columns[:1], True)
            if rows:
                self.check(one, rows[1:], columns, False)
                self.check(one, rows, columns[:-1], False)
                self.check(one, rows + [rows[0]], columns + ["a"], False)
                self.check(one, rows + ["a" * 4], columns + ["a" * 4], False)

    def test_against_the_rank_of_the_table(self):
        for seed in range(40):
            one = some_machine(f"corner {seed % 10}", 2, 1 + seed % 4, zeros=50, most=2)
            words = some_words(2, 3)
            many = 1 + seed // 10
            rows = [words[(seed * 7 + at * 5) % 15] for at in range(many)]
            columns = [words[(seed * 3 + at * 4) % 15] for at in range(many)]
            lines = [[value_of(one, word + tail) for tail in columns] for word in rows]
            self.check(one, rows, columns, rank_of(lines) == many)

    def test_empty_lists_and_lists_of_other_lengths(self):
        for one in (none(2), constant(2, Ratio(0)), constant(2, Ratio(3)), some_machine(1, 2, 3)):
            self.check(one, [], [], True)
            self.check(one, [""], [], False)
            self.check(one, [], ["a"], False)
            self.check(one, ["", "a"], ["b"], False)
        self.check(none(2), [""], [""], False)
        self.check(constant(2, Ratio(0)), ["a"], ["b"], False)
        self.check(constant(2, Ratio(3)), ["abab"], ["bbb"], True)
        self.check(constant(2, Ratio(3)), ["a", "b"], ["a", "b"], False)

    def test_repeated_words(self):
        one = single(2, "ab", Ratio(1))
        self.check(one, ["", "a", "ab"], ["ab", "b", ""], True)
        self.check(one, ["", "a", "a"], ["ab", "b", ""], False)
        self.check(one, ["", "a", "ab"], ["ab", "ab", ""], False)
        self.check(one, ["a", "a"], ["b", "b"], False)

    def test_one_word_each(self):
        one = single(2, "ab", Ratio(-1, 3))
        self.check(one, ["a"], ["b"], True)
        self.check(one, ["ab"], [""], True)
        self.check(one, ["b"], ["a"], False)

    def test_12_words_and_long_ones(self):
        one = single(2, "ab" * 5 + "a", Ratio(1, 2))
        word = "ab" * 5 + "a"
        heads = [word[:at] for at in range(12)]
        tails = [word[at:] for at in range(12)]
        self.check(one, heads, tails, True)
        self.check(one, heads, tails[::-1], True)
        self.check(one, heads, tails[:11] + ["b"], False)
        two = machine(1, [1, 0], [(["1/2", 1], [0, "1/3"])], [0, 1])
        self.check(two, ["a" * 200, "a" * 199], ["a" * 200, "a" * 198], True)
        self.check(two, ["a" * 200, "a" * 200], ["a" * 200, "a" * 198], False)

    def test_no_corner_has_more_words_than_the_rank(self):
        one = some_machine(3, 2, 2)
        words = some_words(2, 2)
        for at in range(5):
            self.check(one, words[at:at + 3], words[:3], False)


class Carries(unittest.TestCase):
    def check(self, one, other):
        told = one.picture(), other.picture()
        found = carry(one, other)
        self.assertEqual((one.picture(), other.picture()), told)
        if found is not None:
            assert_table(self, found)
            self.assertTrue(is_right(one, other, found))
            self.assertIs(is_carry(one, other, found), True)
            self.assertIsNotNone(inverse(found))
        assert_same(self, carry(one=one, other=other), found)
        return found

    def test_the_table_is_the_one_that_carried(self):
        for seed in range(12):
            letters = 1 + seed % 4
            one = least(some_machine(f"carry {seed}", letters, 1 + seed % 4))
            there = some_table(f"there {seed}", one.size, one.size, zeros=20)
            back = inverse(there)
            if back is None:
                continue
            steps = [times(times(back, step), there) for step in one.steps]
            start = times((one.start,), there)[0]
            end = [line[0] for line in times(back, tuple((number,) for number in one.end))]
            other = Machine(letters, start, steps, end)
            assert_same(self, self.check(one, other), there)
            assert_same(self, self.check(other, one), back)
            assert_same(self, self.check(one, one), unit(one.size))

    def test_to_the_least_machine_and_back(self):
        for seed in range(10):
            one = some_machine(f"back {seed}", 1 + seed % 3, 1 + seed % 3, zeros=0)
            if len(row_words(one)) < one.size:
                continue
            found = self.check(one, least(one))
            assert_same(self, found, tuple(inverse(tuple(one.row(word) for word in row_words(one)))))
            assert_same(self, times(found, self.check(least(one), one)), unit(one.size))

    def test_machines_that_are_not_alike(self):
        for seed in range(10):
            one = some_machine(f"apart {seed}", 1 + seed % 2, 1 + seed % 3, zeros=0)
            self.assertIsNone(self.check(one, some_machine(f"far {seed}", one.letters, one.size, zeros=0)))
            self.assertIsNone(self.check(one, scaled(one, Ratio(2))))
            self.assertIsNone(self.check(one, none(one.letters)))
            self.assertIsNone(self.check(one, plus(one, one)))
            last = "a" * (2 * one.size - 1)
            self.assertIsNone(self.check(one, least(plus(one, single(one.letters, last, Ratio(1))))))
        # The same rows and the same size, but another number in the end alone.
        one = machine(1, [1, 0], [([0, 1], [0, 0])], [1, 1])
        self.assertIsNone(self.check(one, machine(1, [1, 0], [([0, 1], [0, 0])], [1, 2])))

    def test_machines_with_more_states_than_their_rank(self):
        for seed in range(8):
            one = some_machine(f"more {seed}", 2, 1 + seed % 3, zeros=0)
            for other in (widened(one, seed, 1), unseen(one, seed, 1)):
                self.assertIsNone(self.check(one, other))
                self.assertIsNone(self.check(other, one))
                self.assertIsNone(self.check(other, other))
                self.assertIsNone(self.check(other, carried(other, seed)))
        for one in rankless():
            if one.size:
                self.assertIsNone(self.check(one, one))
                self.assertIsNone(self.check(one, none(one.letters)))
                self.assertIsNone(self.check(none(one.letters), one))

    def test_machines_without_states(self):
        for letters in range(1, 5):
            self.assertEqual(carry(none(letters), none(letters)), ())
            self.assertIs(type(carry(none(letters), none(letters))), tuple)
            self.assertIsNone(carry(none(letters), constant(letters, Ratio(1))))
            self.assertIsNone(carry(constant(letters, Ratio(1)), none(letters)))

    def test_other_alphabets(self):
        for letters in range(1, 5):
            for others in range(1, 5):
                if letters != others:
                    for size in (0, 1, 2):
                        with self.assertRaises(BadMachine) as context:
                            carry(some_machine(1, letters, size), some_machine(1, others, 2 - size))
                        self.assertIsNone(context.exception.what)

    def test_20_states(self):
        for letters in (1, 3):
            one = some_machine(f"20 {letters}", letters, 20, zeros=0)
            other = carried(one, letters)
            found = carry(one, other)
            self.assertIs(is_carry(one, other, found), True)
            bad = found[:19] + (found[19][:19] + (found[19][19] + Ratio(1, 10 ** 9),),)
            self.assertIs(is_carry(one, other, bad), False)
            self.assertIsNone(carry(one, widened(some_machine(1, letters, 10), 1, 10)))


def is_right(one, other, found):
    """Point 5.4 and the interface, sentence by sentence, with Fractions."""
    lines = plain_table(found)
    if len(lines) != one.size or any(len(line) != other.size for line in lines):
        return False
    if one.size == 0:
        return not any(other.start)
    if other.size == 0:
        return not any(one.end)
    if product_of([plain(one.start)], lines) != [plain(other.start)]:
        return False
    if product_of(lines, [[number] for number in plain(other.end)]) != [[number] for number in plain(one.end)]:
        return False
    return all(
        product_of(plain_table(step), lines) == product_of(lines, plain_table(its))
        for step, its in zip(one.steps, other.steps)
    )


class Judge(unittest.TestCase):
    def check(self, one, other, found, wanted):
        told = one.picture(), other.picture(), plain_table(found)
        self.assertIs(is_carry(one, other, found), wanted)
        self.assertIs(is_right(one, other, found), wanted)
        self.assertEqual((one.picture(), other.picture(), plain_table(found)), told)
        self.assertIs(is_carry(one=one, other=other, table=found), wanted)

    def pairs(self):
        for seed in range(8):
            one = least(some_machine(f"judge {seed}", 1 + seed % 4, 1 + seed % 3, zeros=20))
            if one.size:
                yield one, carried(one, seed)

    def test_each_number_changed(self):
        for one, other in self.pairs():
            found = carry(one, other)
            self.check(one, other, found, True)
            for at, line in enumerate(found):
                for place in range(len(line)):
                    for more in ("1", "-1/1000000"):
                        changed = line[:place] + (line[place] + ratio(more),) + line[place + 1:]
                        self.check(one, other, found[:at] + (changed,) + found[at + 1:], False)

    def test_rows_that_do_not_fit(self):
        nothing = Ratio(0)
        for one, other in self.pairs():
            found = carry(one, other)
            self.check(one, other, found[:-1], False)
            self.check(one, other, found + found[:1], False)
            self.check(one, other, found + ((nothing,) * other.size,), False)
            self.check(one, other, (), False)
            for at, line in enumerate(found):
                for bad in (line[:-1], line + (nothing,), ()):
                    self.check(one, other, found[:at] + (bad,) + found[at + 1:], False)

    def test_other_tables(self):
        for one, other in self.pairs():
            found = carry(one, other)
            self.check(one, other, tuple(tuple(number + number for number in line) for line in found), False)
            self.check(one, other, ((Ratio(0),) * other.size,) * one.size, False)
            self.check(one, one, unit(one.size), True)
            if one.size > 1:
                self.check(one, other, found[::-1], False)

    def test_machines_with_more_states_than_their_rank(self):
        for seed in range(6):
            one = some_machine(f"wide {seed}", 1 + seed % 2, 1 + seed % 3)
            other = widened(one, seed, 2)
            # A row of the wider machine has zeros behind: that is a table with more columns than rows.
            wide = tuple(line + (Ratio(0), Ratio(0)) for line in unit(one.size))
            self.check(one, other, wide, True)
            self.check(one, other, wide[:-1] + (wide[-1][:-1] + (Ratio(1),),), False)
            tall = tuple(zip(*wide))
            self.check(turned(other), turned(one), tall, True)
            self.check(other, other, unit(other.size), True)
            self.check(turned(other), one, tall, is_right(turned(other), one, tall))

    def test_more_than_one_table_for_machines_with_more_states(self):
        one = machine(1, [1, 0], [([1, 0], [0, 1])], [1, 0])
        self.check(one, one, unit(2), True)
        self.check(one, one, table([1, 0], [0, 5]), True)
        self.check(one, one, table([1, 0], [1, 5]), False)
        self.check(one, one, table([1, 1], [0, 5]), False)

    def test_machines_without_states(self):
        blind, unreached = machine(1, [2, 3], [([1, 1], [1, 1])], [0, 0]), machine(1, [0], [([4],)], [7])
        self.check(none(1), none(1), (), True)
        self.check(none(1), none(1), ((),), False)
        self.check(none(1), unreached, (), True)
        self.check(none(1), constant(1, Ratio(0)), (), False)
        self.check(none(1), constant(1, Ratio(1)), (), False)
        self.check(blind, none(1), ((), ()), True)
        self.check(blind, none(1), ((),), False)
        self.check(blind, none(1), (), False)
        self.check(unreached, none(1), ((),), False)
        self.check(constant(1, Ratio(1)), none(1), ((),), False)

    def test_each_property_on_its_own(self):
        one = machine(2, [1, 0], [([0, 1], [1, 0]), ([1, 0], [0, 1])], [1, 2])
        swapped = machine(2, [0, 1], [([0, 1], [1, 0]), ([1, 0], [0, 1])], [2, 1])
        turn = table([0, 1], [1, 0])
        self.check(one, swapped, turn, True)
        self.check(one, machine(2, [0, 2], [([0, 1], [1, 0]), ([1, 0], [0, 1])], [2, 1]), turn, False)
        self.check(one, machine(2, [0, 1], [([0, 1], [1, 0]), ([1, 0], [0, 1])], [2, 3]), turn, False)
        self.check(one, machine(2, [0, 1], [([0, 1], [2, 0]), ([1, 0], [0, 1])], [2, 1]), turn, False)
        self.check(one, machine(2, [0, 1], [([0, 1], [1, 0]), ([1, 0], [3, 1])], [2, 1]), turn, False)

    def test_no_table_for_machines_that_are_not_alike(self):
        for seed in range(8):
            one, other = some_machine(seed, 2, 2), some_machine(seed + 90, 2, 2)
            self.assertEqual(compare(one, other)[0], "word")
            for found in (unit(2), some_table(seed, 2, 2), table([0, 0], [0, 0])):
                self.check(one, other, found, False)

    def test_numbers_of_2000_digits(self):
        long, tiny = Ratio(10 ** 1999 + 7, 10 ** 1999 + 9), Ratio(1, 10 ** 1999)
        one = some_machine("judge", 2, 2, zeros=0)
        there = tuple(tuple(long * number for number in line) for line in unit(2))
        other = Machine(2, [long * number for number in one.start], one.steps,
                        [number.over(long) for number in one.end])
        self.check(one, other, there, True)
        self.check(one, other, (there[0], (there[1][0] + tiny, there[1][1])), False)
        assert_same(self, carry(one, other), there)


class Cores(unittest.TestCase):
    """The machines of wordworth/cores.py, on which the others stand."""

    def test_core(self):
        for one in loose_machines():
            found = core(one)
            self.assertEqual(found.size, len(row_words(one)))
            self.assertEqual(compare(one, found)[0], "same")

    def test_sight(self):
        for one in loose_machines():
            found = sight(one)
            columns = column_words(one)
            self.assertEqual(found.size, len(columns))
            self.assertEqual(compare(one, found)[0], "same")
            for word in some_words(one.letters, 2):
                self.assertEqual(plain(found.row(word)), [value_of(one, word + tail) for tail in columns])
            if columns:
                self.assertEqual(plain(found.end), [Fraction(1)] + [Fraction(0)] * (len(columns) - 1))


if __name__ == "__main__":
    unittest.main()
