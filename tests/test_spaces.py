"""The helpers under wordworth/integers.py and wordworth/spaces.py, on which the promised functions stand."""

import unittest
from math import gcd
from random import Random

from helpers import assert_reduced, assert_row, assert_same, row, table
from wordworth.integers import (
    common_bottom, leading_place, ratios, row_above, shared_factor, table_above, tops_above, whole_product,
    whole_row_times,
)
from wordworth.ratios import Ratio
from wordworth.spaces import Space
from wordworth.tables import rank, reduced


def some_rows(seed, height, width, most=6):
    chance = Random(f"{seed} {height} {width}")
    return [[chance.choice([0, chance.randint(-most, most)]) for _ in range(width)] for _ in range(height)]


def as_table(rows):
    return tuple(tuple(Ratio(integer) for integer in line) for line in rows)


class Integers(unittest.TestCase):
    def test_rows_above_one_bottom(self):
        self.assertEqual(common_bottom(row("1/2", "-1/3", 4)), 6)
        self.assertEqual(common_bottom(()), 1)
        self.assertEqual(tops_above(row("1/2", "-1/3", 4), 12), [6, -4, 48])
        self.assertEqual(row_above(row("1/2", "-1/3", 4, 0)), ([3, -2, 24, 0], 6))
        self.assertEqual(row_above(()), ([], 1))
        self.assertEqual(table_above(table(["1/2", 1], [0, "1/5"])), ([[5, 10], [0, 2]], 10))
        self.assertEqual(table_above(()), ([], 1))
        found = ratios([3, -2, 0], 6)
        assert_row(self, found)
        assert_same(self, found, row("1/2", "-1/3", 0))

    def test_products(self):
        self.assertEqual(whole_product([1, -2, 3], [4, 5, 6]), 12)
        self.assertEqual(whole_product([], []), 0)
        self.assertEqual(whole_row_times([1, -2], [[3, 4], [5, 0]]), [-7, 4])
        self.assertEqual(whole_row_times([0, 0], [[3, 4], [5, 0]]), [0, 0])
        self.assertEqual(whole_row_times([], []), [])

    def test_factors_and_leads(self):
        self.assertEqual([shared_factor(line) for line in ([], [0, 0], [6, -9, 0], [-4])], [0, 0, 3, 4])
        self.assertEqual([leading_place(line) for line in ([], [0, 0], [6, 1], [0, -4])], [None, None, 0, 1])
        self.assertEqual(leading_place(row(0, "1/2")), 1)


class Spaces(unittest.TestCase):
    def test_against_tables(self):
        for seed in range(120):
            rows = some_rows(seed, 1 + seed % 6, 1 + seed % 5)
            space = Space()
            taken = []
            for line in rows:
                known = rank(as_table(taken + [line])) == rank(as_table(taken))
                self.assertIs(space.has(line), known)
                left = space.rest(line)
                self.assertIs(any(left), not known)
                # The rest does the same for the space as the row itself.
                self.assertEqual(reduced(as_table(taken + [left])), reduced(as_table(taken + [line])))
                told = list(line)
                space.take_in(line)
                self.assertEqual(line, told)
                taken.append(line)
                self.assertTrue(space.has(line))
                found = space.reduced()
                assert_reduced(self, found)
                assert_same(self, found, reduced(as_table(taken)))
                self.assertEqual(reduced(as_table(space.rows())), found)

    def test_rests_share_no_factor(self):
        space = Space()
        self.assertEqual(space.rest([6, -9, 0]), [2, -3, 0])
        self.assertEqual(space.rest([0, 0, 0]), [0, 0, 0])
        space.take_in([0, -2, 4])
        self.assertEqual(space.rows(), [[0, 1, -2]])
        self.assertEqual(space.rest([0, 7, -14]), [0, 0, 0])
        for seed in range(50):
            left = space.rest(some_rows(seed, 1, 3, most=100)[0])
            self.assertEqual(left[1], 0)
            self.assertIn(gcd(*left), (0, 1))

    def test_the_empty_space(self):
        space = Space()
        self.assertEqual((space.rows(), space.reduced()), ([], ()))
        self.assertTrue(space.has([]))
        self.assertTrue(space.has([0, 0]))
        self.assertFalse(space.has([0, 1]))
        space.take_in([0, 0])
        self.assertEqual(space.reduced(), ())

    def test_two_spaces_have_no_effect_on_each_other(self):
        one, other = Space(), Space()
        one.take_in([1, 2])
        self.assertFalse(other.has([1, 2]))
        line = [3, 4]
        other.take_in(line)
        line[0] = 0
        self.assertTrue(other.has([3, 4]))
        other.rows().append([1, 0])
        self.assertEqual(other.rows(), [[3, 4]])
        self.assertEqual(one.reduced(), table([1, 2]))


if __name__ == "__main__":
    unittest.main()
