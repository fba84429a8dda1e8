"""Point 7.4 and the interface under wordworth/rests.py."""

import unittest

from helpers import carried, machine, none, some_machine, some_words, value_of, widened
from wordworth.errors import BadNumber, TooMany
from wordworth.machines import Machine
from wordworth.mixing import constant, plus, scaled, single, star, turned
from wordworth.ratios import Ratio
from wordworth.rests import rests
from wordworth.wholes import whole


def integers(seed, letters, size, zeros=30, most=3):
    """A machine of integers that looks like chance but is the same for the same seed."""
    one = some_machine(seed, letters, size, zeros, most)

    def tops(line):
        return [Ratio(number.top) for number in line]

    return Machine(letters, tops(one.start), [[tops(line) for line in step] for step in one.steps], tops(one.end))


def cycle(many):
    """One letter: 1 for the words whose length is a multiple, else 0."""
    return machine(1, [1] + [0] * (many - 1), [[[int(place == (at + 1) % many) for place in range(many)]
                                                for at in range(many)]], [1] + [0] * (many - 1))


def adder(*more):
    """The sum of one number for each letter; by a modulus it has a state for each remainder."""
    return machine(len(more), [1, 0], [([1, number], [0, 1]) for number in more], [0, 1])


def machines():
    for seed in range(10):
        one = integers(f"rests {seed}", 1 + seed % 3, 1 + seed % 3)
        yield carried(widened(one, seed, 1), seed) if seed % 2 else one
    yield from (none(1), none(4), constant(2, Ratio(0)), constant(3, Ratio(-7)), single(2, "ab", Ratio(6)))
    yield star(plus(single(2, "a", Ratio(1)), single(2, "ba", Ratio(2))))
    yield from (cycle(5), adder(1, 3), adder(2, 4, 5))
    yield scaled(adder(1, 2), Ratio(6))
    yield plus(constant(1, Ratio(1, 2)), machine(1, ["1/2"], [([3],)], [1]))


class Rests(unittest.TestCase):
    def check(self, one, modulus, longest=None):
        """Point 7.4 for all words up to some length, and for the states of the plain machine."""
        told = one.picture()
        found = rests(one, modulus)
        moves, remainders = found
        self.assertIs(type(found), tuple)
        self.assertIs(type(moves), tuple)
        self.assertIs(type(remainders), tuple)
        self.assertEqual(len(moves), len(remainders))
        for line in moves:
            self.assertIs(type(line), tuple)
            self.assertEqual(len(line), one.letters)
            self.assertTrue(all(type(target) is int and 0 <= target < len(moves) for target in line))
        self.assertTrue(all(type(rest) is int and 0 <= rest < modulus for rest in remainders))
        for word in some_words(one.letters, longest or 6 - one.letters):
            value = value_of(one, word)
            self.assertEqual(value.denominator, 1)
            self.assertEqual(remainders[self.state(moves, word)], value.numerator % modulus)
        self.assertEqual(self.order_of(moves), list(range(len(moves))))
        self.assertEqual(len(set(self.classes(moves, remainders))), len(moves))
        self.assertEqual(one.picture(), told)
        self.assertEqual(rests(machine=one, modulus=modulus), found)
        return found

    def state(self, moves, word):
        at = 0
        for letter in word:
            at = moves[at]["abcd".index(letter)]
        return at

    def order_of(self, moves):
        """The states in the order of the first words that lead to them."""
        order = [0]
        for at in order:
            for target in moves[at]:
                if target not in order:
                    order.append(target)
        return order

    def classes(self, moves, remainders):
        """The states, told apart by the remainders of all words that follow."""
        kinds = list(remainders)
        while True:
            lines = [(kinds[at], *[kinds[target] for target in moves[at]]) for at in range(len(moves))]
            names = {line: at for at, line in enumerate(dict.fromkeys(lines))}
            if len(names) == len(set(kinds)):
                return kinds
            kinds = [names[line] for line in lines]

    def test_all_machines_by_several_moduli(self):
        checked = 0
        for one in machines():
            for modulus in (1, 2, 3, 4, 6, 7, 30, 97, 100):
                try:
                    found = rests(one, modulus)
                except TooMany:
                    continue
                checked += len(found[0]) > 3
                self.check(one, modulus)
        self.assertGreater(checked, 40)

    def test_the_modulus_1(self):
        for one in machines():
            self.assertEqual(rests(one, 1), (((0,) * one.letters,), (0,)))

    def test_machines_without_states(self):
        for modulus in (1, 2, 100):
            self.assertEqual(rests(none(3), modulus), (((0, 0, 0),), (0,)))
            self.assertEqual(rests(constant(1, Ratio(0)), modulus), (((0,),), (0,)))
            self.assertEqual(rests(widened(constant(2, Ratio(0)), 1), modulus), (((0, 0),), (0,)))

    def test_machines_that_are_known(self):
        # The powers of 2 by 7 come back after three steps.
        self.assertEqual(self.check(machine(1, [1], [([2],)], [1]), 7, 8), (((1,), (2,), (0,)), (1, 2, 4)))
        # By 12 they run into a circle.
        self.assertEqual(self.check(machine(1, [1], [([2],)], [1]), 12, 8), (((1,), (2,), (3,), (2,)), (1, 2, 4, 8)))
        self.assertEqual(self.check(constant(2, Ratio(-7)), 5), (((0, 0),), (3,)))
        self.assertEqual(self.check(adder(1, 2), 3), (((1, 2), (2, 0), (0, 1)), (0, 1, 2)))
        self.assertEqual(self.check(adder(2, 1), 3), (((1, 2), (2, 0), (0, 1)), (0, 2, 1)))
        found = self.check(single(2, "ab", Ratio(-1)), 100)
        self.assertEqual(found, (((1, 2), (2, 3), (2, 2), (2, 2)), (0, 0, 0, 99)))
        # What the modulus divides is 0.
        self.assertEqual(rests(single(2, "ab", Ratio(100)), 100), (((0, 0),), (0,)))
        self.assertEqual(rests(single(2, "ab", Ratio(50)), 100)[1], (0, 0, 0, 50))

    def test_states_are_told_apart_by_what_follows_alone(self):
        # The parts of the machine differ by 7, but each number of a word is seen 6 times.
        self.assertEqual(self.check(scaled(adder(1, 1), Ratio(6)), 12)[1], (0, 6))
        self.assertEqual(len(self.check(scaled(adder(1, 1), Ratio(6)), 9)[0]), 3)
        self.assertEqual(len(self.check(scaled(adder(4, 6), Ratio(1)), 8)[0]), 4)
        # The end sees the second state by 2 alone: by 4 only what is odd counts there.
        one = machine(1, [1, 0], [([1, 1], [0, 1])], [0, 2])
        self.assertEqual(self.check(one, 4, 8), (((1,), (0,)), (0, 2)))

    def test_machines_that_are_alike_have_the_same_rests(self):
        for seed in range(6):
            one = integers(f"alike {seed}", 1 + seed % 3, 2)
            for modulus in (2, 3, 4):
                wanted = rests(one, modulus)
                for other in (carried(one, seed), widened(one, seed, 1), turned(widened(turned(one), seed, 1))):
                    self.assertEqual(rests(other, modulus), wanted)

    def test_exactly_300_states(self):
        # A sum by 100 has 100 states; with a circle of three it has 300.
        self.assertEqual(len(self.check(circle_of_300(), 100, 310)[0]), 300)
        self.assertEqual(len(self.check(circle_of_300(), 50, 60)[0]), 50)

    def test_301_states(self):
        # One word ahead of the circle that is not in it.
        for one in (plus(circle_of_300(), single(1, "", Ratio(1))), plus(circle_of_300(), single(1, "aa", Ratio(1)))):
            with self.assertRaises(TooMany) as context:
                rests(one, 100)
            self.assertIsNone(context.exception.what)

    def test_far_too_many_states(self):
        for one in (pascal(), integers("many", 4, 6, zeros=0)):
            with self.assertRaises(TooMany):
                rests(one, 100)
        self.assertEqual(len(self.check(pascal(), 2, 20)[0]), 8)

    def test_many_letters_and_many_states(self):
        self.assertEqual(len(self.check(adder(1, 7, 13, 50), 97)[0]), 97)
        with self.assertRaises(TooMany):
            rests(plus(adder(1, 0), by_square()), 100)

    def test_broken_numbers_come_first(self):
        with self.assertRaises(BadNumber) as context:
            rests(constant(2, Ratio(1, 2)), 5)
        self.assertEqual(context.exception.what, "")
        for modulus in (1, 2, 100):
            # There would be too many states, too.
            many = plus(by_square(), adder(1, 0))
            with self.assertRaises(TooMany):
                rests(many, 100)
            for word in ("", "b", "aab"):
                one = plus(many, single(2, word, Ratio(1, 2)))
                with self.assertRaises(BadNumber) as context:
                    rests(one, modulus)
                self.assertEqual(context.exception.what, word)
                self.assertEqual(whole(one), ("broken", word))
        with self.assertRaises(BadNumber) as context:
            rests(machine(1, [2 ** 29], [(["1/2"],)], [1]), 3)
        self.assertEqual(context.exception.what, "a" * 30)


def by_square():
    """Over a and b: the count of the letters b, times itself."""
    return machine(2, [1, 0, 0], [([1, 0, 0], [0, 1, 0], [0, 0, 1]), ([1, 1, 1], [0, 1, 2], [0, 0, 1])], [0, 0, 1])


def pascal():
    """One letter: the numbers of ways to choose 5 of m, which by 100 come back after 2,000 steps."""
    steps = [[int(place in (at, at + 1)) for place in range(6)] for at in range(6)]
    return machine(1, [1, 0, 0, 0, 0, 0], [steps], [0, 0, 0, 0, 0, 1])


def circle_of_300():
    return plus(adder(1), scaled(cycle(3), Ratio(50)))


if __name__ == "__main__":
    unittest.main()
