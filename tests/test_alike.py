"""Points 0.4, 0.5, 2.2, 4.1 and 4.2, and the interface under wordworth/alike.py."""

import unittest
from fractions import Fraction

from helpers import (
    assert_reduced, assert_same, assert_table, carried, is_in, machine, none, plain, plain_table, product_of,
    reduced_of, row, some_machine, some_table, some_words, table, value_of, widened,
)
from wordworth.alike import compare, is_same_paper
from wordworth.errors import BadMachine
from wordworth.machines import Machine
from wordworth.mixing import constant, in_row, mixed, plus, scaled, single, star, turned
from wordworth.ratios import Ratio
from wordworth.tables import reduced, times, unit


def is_right(one, other, paper):
    """Point 4.1, sentence by sentence, with Fractions."""
    size, its_size = one.size, other.size
    lines = plain_table(paper)
    if any(len(line) != size + its_size for line in lines):
        return False
    if size + its_size == 0:
        return True
    if not is_in(lines, plain(one.start) + plain(other.start)):
        return False
    for line in lines:
        mine, its = line[:size], line[size:]
        for step, its_step in zip(plain_table_of(one), plain_table_of(other)):
            led = product_of([mine], step)[0] if size else []
            led += product_of([its], its_step)[0] if its_size else []
            if not is_in(lines, led):
                return False
        if sum((x * y for x, y in zip(mine, plain(one.end))), Fraction(0)) != sum(
                (x * y for x, y in zip(its, plain(other.end))), Fraction(0)):
            return False
    return True


def plain_table_of(one):
    return [plain_table(step) for step in one.steps]


def first_difference(one, other):
    """The first word with different numbers among all that are shorter than m + n, or None."""
    for word in some_words(one.letters, max(0, one.size + other.size - 1)):
        if value_of(one, word) != value_of(other, word):
            return word
    return None


def alike_pairs():
    """Pairs of machines that are alike, of the same and of different sizes."""
    for seed in range(10):
        one = some_machine(seed, 1 + seed % 3, seed % 4)
        yield one, one
        yield one, carried(one, seed)
        yield widened(one, seed), one
        yield carried(widened(one, seed, 1), seed), widened(one, seed)
        yield turned(turned(plus(one, none(one.letters)))), one
    yield none(2), none(2)
    yield none(1), machine(1, [0], [([1],)], [1])
    yield machine(2, [1, 1], [([1, 0], [0, 1]), ([2, 0], [0, 2])], [1, -1]), none(2)
    yield constant(2, Ratio(2)), plus(constant(2, Ratio(1)), constant(2, Ratio(1)))
    yield single(2, "ab", Ratio(1)), in_row(single(2, "a", Ratio(2)), single(2, "b", Ratio(1, 2)))
    one = some_machine("mixed", 2, 2)
    yield mixed(one, single(2, "", Ratio(1))), one
    yield star(single(1, "a", Ratio(1))), constant(1, Ratio(1))


class Compare(unittest.TestCase):
    def check_same(self, one, other):
        told = one.picture(), other.picture()
        found = compare(one, other)
        self.assertIs(type(found), tuple)
        self.assertEqual((found[0], len(found)), ("same", 2))
        paper = found[1]
        assert_reduced(self, paper)
        self.assertTrue(all(len(line) == one.size + other.size for line in paper))
        words = some_words(one.letters, min(4 + 4 // one.letters, one.size + other.size))
        rows = tuple(one.row(word) + other.row(word) for word in words)
        assert_same(self, paper, reduced(rows))
        self.assertIs(is_same_paper(one, other, paper), True)
        self.assertEqual((one.picture(), other.picture()), told)
        assert_same(self, compare(one=one, other=other), found)
        self.assertIsNone(first_difference(one, other) if one.letters < 3 and one.size < 4 else None)
        return paper

    def check_word(self, one, other, word):
        told = one.picture(), other.picture()
        found = compare(one, other)
        self.assertIs(type(found), tuple)
        self.assertEqual(found, ("word", word))
        self.assertIs(type(found[1]), str)
        self.assertEqual(compare(other, one), found)
        self.assertNotEqual(one.number(word), other.number(word))
        self.assertEqual((one.picture(), other.picture()), told)

    def test_machines_that_are_alike(self):
        for one, other in alike_pairs():
            self.check_same(one, other)
            self.check_same(other, one)

    def test_papers_word_by_word(self):
        self.assertEqual(compare(none(2), none(2)), ("same", ()))
        self.assertEqual(compare(machine(1, [0, 0], [([1, 2], [3, 4])], [1, 1]), none(1)), ("same", ()))
        paper = self.check_same(constant(2, Ratio(3)), plus(constant(2, Ratio(1)), constant(2, Ratio(2))))
        assert_same(self, paper, table([1, 1, 1]))
        one = machine(2, [2, 0], [([0, 1], [1, 0]), ([1, 0], [0, 1])], [1, 1])
        paper = self.check_same(one, constant(2, Ratio(2)))
        assert_same(self, paper, table([1, 0, "1/2"], [0, 1, "1/2"]))

    def test_machines_that_are_not_alike(self):
        self.check_word(constant(2, Ratio(1)), constant(2, Ratio(2)), "")
        self.check_word(none(1), constant(1, Ratio(1, 10 ** 1999)), "")
        for word in ("", "a", "b", "ab", "ba", "bb", "aab", "babb"):
            one = some_machine(word, 2, 2)
            self.check_word(one, plus(one, single(2, word, Ratio(-1, 7))), word)
            self.check_word(none(2), single(2, word, Ratio(1)), word)
        one = plus(single(3, "cab", Ratio(1)), single(3, "bca", Ratio(5)))
        self.check_word(one, none(3), "bca")
        self.check_word(plus(single(4, "dd", Ratio(1)), single(4, "aaa", Ratio(1))), none(4), "dd")
        self.check_word(one, single(3, "cab", Ratio(1)), "bca")

    def test_the_first_word_against_all_words(self):
        for seed in range(40):
            letters = 1 + seed % 2
            one = some_machine(seed, letters, 1 + seed % 3, zeros=60, most=2)
            other = some_machine(-seed, letters, 1 + seed // 2 % 3, zeros=60, most=2)
            word = first_difference(one, other)
            if word is None:
                self.check_same(one, other)
            else:
                self.check_word(one, other, word)

    def test_machines_that_differ_first_in_a_word_of_m_and_n_less_1_letters(self):
        for size, its_size in ((1, 1), (1, 2), (2, 2), (2, 3), (4, 4), (3, 7), (10, 11), (20, 20)):
            one, other = late_pair(size, its_size)
            self.assertEqual((one.size, other.size), (size, its_size))
            self.check_word(one, other, "a" * (size + its_size - 1))

    def test_a_late_first_word_over_two_letters(self):
        # The word must go along the whole machine: any other letter leads nowhere.
        for word in ("abbabaabba", "bbbbbbbbbb"):
            self.check_word(single(2, word, Ratio(1)), single(2, word, Ratio(2)), word)
            self.check_word(single(2, word, Ratio(1)), none(2), word)

    def test_other_alphabets(self):
        for letters in range(1, 5):
            for others in range(1, 5):
                if letters != others:
                    for size in (0, 1, 3):
                        with self.assertRaises(BadMachine) as context:
                            compare(some_machine(1, letters, size), some_machine(1, others, size))
                        self.assertIsNone(context.exception.what)

    def test_20_states(self):
        for letters in (1, 2, 4):
            one = some_machine(f"20 {letters}", letters, 20, zeros=0)
            other = carried(one, letters)
            found = compare(one, other)
            self.assertEqual(found[0], "same")
            assert_reduced(self, found[1])
            self.assertIs(is_same_paper(one, other, found[1]), True)
            last = "abcd"[letters - 1]
            steps = list(other.steps)
            line = steps[-1][19]
            steps[-1] = steps[-1][:19] + (line[:19] + (line[19] + Ratio(1, 10 ** 9),),)
            changed = Machine(letters, other.start, steps, other.end)
            self.check_word(one, changed, last)

    def test_asking_again_gives_the_same(self):
        one, other = some_machine(1, 2, 3), carried(some_machine(1, 2, 3), 1)
        found = compare(one, other)
        compare(one, constant(2, Ratio(1)))
        assert_same(self, compare(one, other), found)


def late_pair(size, its_size):
    """Machines with one letter of m and n states whose numbers differ first at m + n - 1 letters.

    The numbers of the first one go on by a rule of m numbers, those of the
    second by one of n; so many of the first numbers can be given to both.
    """
    high = [Fraction((at * 7) % 5 - 2) for at in range(size)] + [Fraction(1)]
    low = [Fraction((at * 3) % 4 - 1) for at in range(its_size)] + [Fraction(1)]
    high[0], low[0] = Fraction(2), Fraction(3)
    # The starts x and y of the rules make x * low - y * high end in a single 1.
    lines = []
    for at in range(size):
        lines.append([Fraction(0)] * at + low[::-1] + [Fraction(0)] * (size - 1 - at))
    for at in range(its_size):
        lines.append([Fraction(0)] * at + [-number for number in high[::-1]] + [Fraction(0)] * (its_size - 1 - at))
    count = size + its_size
    sums = [[line[at] for line in lines] + [Fraction(at == count - 1)] for at in range(count)]
    found = [line[-1] for line in reduced_of(sums)]
    return by_rule(found[:size], high), by_rule(found[size:], low)


def by_rule(start, rule):
    """The machine whose numbers, as a power series, are the start over the rule turned around."""
    size = len(start)
    step = [[Fraction(place + 1 == at) for place in range(size)] for at in range(size)]
    for place in range(size):
        step[0][place] -= rule[size - 1 - place]
    return machine(1, start, [step], [1] + [0] * (size - 1))


class Papers(unittest.TestCase):
    def check(self, one, other, paper, wanted):
        told = one.picture(), other.picture(), plain_table(paper)
        found = is_same_paper(one, other, paper)
        self.assertIs(found, wanted)
        self.assertIs(is_right(one, other, paper), wanted)
        self.assertEqual((one.picture(), other.picture(), plain_table(paper)), told)
        self.assertIs(is_same_paper(one=one, other=other, paper=paper), found)

    def test_papers_of_compare(self):
        for one, other in alike_pairs():
            self.check(one, other, compare(one, other)[1], True)

    def test_other_rows_of_the_same_space(self):
        for seed, (one, other) in enumerate(alike_pairs()):
            paper = compare(one, other)[1]
            if paper:
                self.check(one, other, paper[::-1], True)
                self.check(one, other, paper + paper, True)
                self.check(one, other, paper + ((Ratio(0),) * (one.size + other.size),), True)
                self.check(one, other, tuple(tuple(Ratio(-3, 7) * number for number in line) for line in paper), True)
                sums = times(some_table(seed, len(paper) + 2, len(paper), zeros=20), paper)
                self.check(one, other, sums, is_right(one, other, sums))
                if len(reduced(sums)) == len(paper):
                    self.check(one, other, sums, True)

    def test_a_larger_space(self):
        # Of machines that are blind to some states the paper may have more than it must.
        one = machine(1, [1, 0, 0], [([1, 0, 0], [0, 1, 0], [0, 0, 1])], [1, 0, 0])
        other = constant(1, Ratio(1))
        self.check(one, other, table([1, 0, 0, 1]), True)
        self.check(one, other, table([1, 0, 0, 1], [0, 1, 0, 0]), True)
        self.check(one, other, table([1, 5, 0, 1], [0, 1, 0, 0], [0, 0, 3, 0]), True)
        self.check(one, other, unit(4), False)

    def test_a_paper_that_is_wrong_in_one_number(self):
        wrong = 0
        for one, other in alike_pairs():
            paper = compare(one, other)[1]
            for at, line in enumerate(paper[:3]):
                for place in range(len(line)):
                    changed = line[:place] + (line[place] + Ratio(1, 3),) + line[place + 1:]
                    bad = paper[:at] + (changed,) + paper[at + 1:]
                    self.assertIs(is_same_paper(one, other, bad), is_right(one, other, bad))
                    wrong += not is_right(one, other, bad)
        self.assertGreater(wrong, 100)
        self.check(constant(1, Ratio(2)), constant(1, Ratio(2)), table([1, 1]), True)
        self.check(constant(1, Ratio(2)), constant(1, Ratio(2)), table([1, "1000001/1000000"]), False)

    def test_a_paper_with_a_row_left_out(self):
        for one, other in alike_pairs():
            paper = compare(one, other)[1]
            for at in range(len(paper)):
                # The paper of compare spans the least space that is right.
                self.check(one, other, paper[:at] + paper[at + 1:], False)

    def test_a_paper_with_a_row_of_a_wrong_length(self):
        for one, other in list(alike_pairs())[:12]:
            paper = compare(one, other)[1]
            width = one.size + other.size
            self.check(one, other, paper + ((Ratio(0),) * (width + 1),), False)
            self.check(one, other, ((Ratio(0),) * 60,) + paper, False)
            if width:
                self.check(one, other, paper + ((),), False)
                self.check(one, other, paper + ((Ratio(0),) * (width - 1),), False)
            for at in range(len(paper)):
                self.check(one, other, paper[:at] + (paper[at] + (Ratio(0),),) + paper[at + 1:], False)
                self.check(one, other, paper[:at] + (paper[at][:-1],) + paper[at + 1:], False)

    def test_the_empty_paper(self):
        self.check(none(2), none(2), (), True)
        self.check(none(2), none(2), ((),), True)
        self.check(none(2), none(2), ((), ()), True)
        self.check(none(2), none(2), ((Ratio(0),),), False)
        self.check(constant(2, Ratio(1)), constant(2, Ratio(1)), (), False)
        self.check(constant(2, Ratio(0)), none(2), (), False)
        self.check(constant(2, Ratio(0)), none(2), table([1]), True)
        self.check(machine(1, [0], [([1],)], [1]), none(1), (), True)
        one, other = machine(1, [0, 0], [([1, 2], [3, 4])], [1, 5]), machine(1, [0], [([1],)], [1])
        self.check(one, other, (), True)
        self.check(one, other, table([0, 0, 0]), True)

    def test_each_property_on_its_own(self):
        one = machine(2, [1, 0], [([1, 0], [0, 1]), ([0, 1], [1, 0])], [1, 1])
        other = constant(2, Ratio(1))
        self.check(one, other, table([1, 0, 1], [0, 1, 1]), True)
        # The start is not in the space.
        self.check(one, other, table([1, 1, 2]), False)
        # A letter leads out of the space.
        self.check(one, other, table([1, 0, 1]), False)
        # The ends differ.
        self.check(one, constant(2, Ratio(2)), table([1, 0, 1], [0, 1, 1]), False)
        self.check(one, other, table([1, 0, 1], [0, 1, 1], [0, 0, 1]), False)
        self.check(one, other, table([1, 0, 2], [0, 1, 2]), False)

    def test_the_last_letter_counts_too(self):
        size = 2
        stays, leaves = unit(size), table([0, 1], [0, 1])
        for at in range(4):
            steps = [stays] * 4
            steps[at] = leaves
            one = Machine(4, row(1, 0), steps, row(1, 1))
            self.check(one, constant(4, Ratio(1)), table([1, 0, 1]), False)
            self.check(one, constant(4, Ratio(1)), table([1, 0, 1], [0, 1, 1]), True)

    def test_no_paper_is_right_for_machines_that_are_not_alike(self):
        for seed in range(20):
            one = some_machine(seed, 1 + seed % 2, 2)
            other = some_machine(seed + 50, 1 + seed % 2, 1 + seed % 2)
            self.assertEqual(compare(one, other)[0], "word")
            size = one.size + other.size
            rows = tuple(one.row(word) + other.row(word) for word in some_words(one.letters, 3))
            for paper in ((), unit(size), reduced(rows), rows, some_table(seed, 2, size), unit(size)[:1]):
                self.check(one, other, paper, False)

    def test_60_rows(self):
        one = some_machine("60", 2, 5)
        other = carried(one, "60")
        paper = compare(one, other)[1]
        many = times(some_table("60", 60, len(paper)), paper)
        self.assertEqual(len(many), 60)
        self.check(one, other, many, True)
        bad = many[:59] + (many[59][:9] + (many[59][9] + Ratio(1),),)
        self.check(one, other, bad, False)

    def test_numbers_of_2000_digits(self):
        one, other = some_machine("long", 2, 2, zeros=0), some_machine("long", 2, 2, zeros=0)
        paper = compare(one, other)[1]
        long = Ratio(10 ** 1999 + 7, 10 ** 1999 + 9)
        scaled_rows = tuple(tuple(long * number for number in line) for line in paper)
        self.check(one, other, scaled_rows, True)
        tiny = Ratio(1, 10 ** 1999)
        bad = (paper[0][:3] + (paper[0][3] + tiny,),) + paper[1:]
        self.check(one, other, bad, False)
        found = compare(scaled(one, long), scaled(other, long))
        self.assertEqual(found[0], "same")
        self.assertEqual(compare(scaled(one, long), scaled(one, long + tiny))[0], "word")

    def test_asking_again_gives_the_same(self):
        one = some_machine(1, 2, 3)
        paper = compare(one, one)[1]
        assert_table(self, paper)
        for _ in range(3):
            self.assertIs(is_same_paper(one, one, paper), True)
            self.assertIs(is_same_paper(one, one, paper[1:]), False)


if __name__ == "__main__":
    unittest.main()
