"""Points 0.4, 0.5 and 1.4, and the interface under wordworth/lattices.py."""

import copy
import itertools
import math
import unittest
from random import Random

from helpers import wide
from wordworth.lattices import basic, pieces


def some_rows(seed, height, width, most=9, zeros=20):
    """Whole rows that look like chance but are the same for the same seed."""
    chance = Random(f"{seed} {height} {width}")
    return [
        tuple(0 if chance.randrange(100) < zeros else chance.randint(-most, most) for _ in range(width))
        for _ in range(height)
    ]


def sum_of(counts, rows, width):
    """The sum of the rows, each so many times."""
    return tuple(sum(count * line[at] for count, line in zip(counts, rows)) for at in range(width))


def minors(rows, size):
    """The greatest factor that all minors of this size share."""
    width = len(rows[0]) if rows else 0
    found = 0
    for lines in itertools.combinations(rows, size):
        for places in itertools.combinations(range(width), size):
            found = math.gcd(found, determinant([[line[at] for at in places] for line in lines]))
    return found


def determinant(square):
    if not square:
        return 1
    rest = [[line[:at] + line[at + 1:] for line in square[1:]] for at in range(len(square))]
    return sum((-1) ** at * number * determinant(rest[at]) for at, number in enumerate(square[0]))


class Basic(unittest.TestCase):
    def check_form(self, basis):
        """The tuple is in basic form, property by property as point 1.4 lists them."""
        self.assertIs(type(basis), tuple)
        leads = []
        for line in basis:
            self.assertIs(type(line), tuple)
            self.assertTrue(all(type(integer) is int for integer in line))
            self.assertTrue(any(line))
            leads.append([at for at, integer in enumerate(line) if integer][0])
            self.assertGreater(line[leads[-1]], 0)
        self.assertEqual(leads, sorted(set(leads)))
        for at, lead in enumerate(leads):
            for above in basis[:at]:
                self.assertTrue(0 <= above[lead] < basis[at][lead])

    def check_same_lattice(self, rows, basis):
        """Each row is a sum of the basis, and the basis has no more than such sums: its minors tell."""
        for line in rows:
            counts = pieces(basis, line)
            self.assertIsNotNone(counts)
            self.assertEqual(sum_of(counts, basis, len(line)), tuple(line))
        # A lattice within another one of the same rank is all of it exactly if
        # the minors share the same greatest factor.
        self.assertEqual(minors(rows, len(basis)), minors(basis, len(basis)))

    def test_ordinary(self):
        self.assertEqual(basic([(4, 0), (6, 0)]), ((2, 0),))
        self.assertEqual(basic([(2, 1), (0, 3)]), ((2, 1), (0, 3)))
        self.assertEqual(basic([(2, 7), (0, 3)]), ((2, 1), (0, 3)))
        self.assertEqual(basic([(1, 2), (3, 4)]), ((1, 0), (0, 2)))
        self.assertEqual(basic([(0, 2, 1), (4, 0, 0), (6, 1, 0)]), ((2, 1, 0), (0, 2, 0), (0, 0, 1)))

    def test_integers_above_a_leading_one_are_from_0_up(self):
        self.assertEqual(basic([(1, -1), (0, 5)]), ((1, 4), (0, 5)))
        self.assertEqual(basic([(1, -5), (0, 5)]), ((1, 0), (0, 5)))
        self.assertEqual(basic([(1, 5, 0), (0, 5, 1), (0, 0, 1)]), ((1, 0, 0), (0, 5, 0), (0, 0, 1)))
        self.assertEqual(basic([(1, -7, 0), (0, 2, -9), (0, 0, 4)]), ((1, 1, 0), (0, 2, 3), (0, 0, 4)))

    def test_edges(self):
        for none in ((), [], [()], ((), ()), [(0,)], [(0, 0), (0, 0)], ((0,) * 20,) * 40):
            found = basic(none)
            self.assertEqual(found, ())
            self.assertIs(type(found), tuple)
        self.assertEqual(basic([(7,)]), ((7,),))
        self.assertEqual(basic([(-7,)]), ((7,),))
        self.assertEqual(basic([(0, -3, 5)]), ((0, 3, -5),))
        self.assertEqual(basic([(0, 0, 1)]), ((0, 0, 1),))

    def test_rows_of_0_among_others(self):
        self.assertEqual(basic([(0, 0), (3, -1), (0, 0)]), ((3, -1),))

    def test_dependent_rows(self):
        self.assertEqual(basic([(2, 4), (3, 6)]), ((1, 2),))
        self.assertEqual(basic([(2, 4), (-2, -4), (4, 8)]), ((2, 4),))
        self.assertEqual(basic([(6, 3), (10, 5), (15, 0)]), ((1, 8), (0, 15)))
        self.assertEqual(basic([(1, 1, 0), (0, 1, 1), (1, 2, 1)]), ((1, 0, -1), (0, 1, 1)))

    def test_a_list_and_a_tuple(self):
        rows = some_rows(1, 4, 4)
        self.assertEqual(basic(rows), basic(tuple(rows)))
        self.assertEqual(basic(rows=rows), basic(rows))

    def test_leads_that_come_late(self):
        self.assertEqual(basic([(0, 0, 4), (0, 3, 1), (2, 0, 0)]), ((2, 0, 0), (0, 3, 1), (0, 0, 4)))
        self.assertEqual(basic([(0, 2, 0), (3, 1, 0), (0, 0, -1), (3, 0, 0)]), ((3, 0, 0), (0, 1, 0), (0, 0, 1)))

    def test_many_shapes(self):
        for seed in range(25):
            for height, width in ((1, 1), (1, 4), (4, 1), (2, 2), (3, 3), (2, 4), (5, 3), (4, 4)):
                rows = some_rows(seed, height, width, most=1 + seed % 12, zeros=seed % 5 * 15)
                basis = basic(rows)
                self.check_form(basis)
                self.check_same_lattice(rows, basis)

    def test_all_small_pairs_of_rows(self):
        for one in itertools.product(range(-3, 4), repeat=2):
            for other in itertools.product(range(-3, 4), repeat=2):
                basis = basic([one, other])
                self.check_form(basis)
                self.check_same_lattice([one, other], basis)

    def test_other_rows_of_the_same_lattice_give_the_same(self):
        chance = Random(3)
        for seed in range(30):
            rows = some_rows(seed, 4, 5, most=30)
            wanted = basic(rows)
            self.assertEqual(basic(wanted), wanted)
            self.assertEqual(basic(rows[::-1]), wanted)
            for _ in range(10):
                one, other = chance.sample(range(4), 2)
                many = chance.randint(-5, 5)
                rows[one] = tuple(mine + many * its for mine, its in zip(rows[one], rows[other]))
                rows[other] = tuple(-integer for integer in rows[other])
            self.assertEqual(basic(rows), wanted)
            self.assertEqual(basic(rows + [sum_of((2, -7, 0, 5), rows, 5)]), wanted)

    def test_40_rows_of_20_integers_of_60_digits(self):
        for height in (40, 21, 20, 19, 3):
            rows = some_rows(height, height, 20, most=10 ** 60 - 1, zeros=10)
            basis = basic(rows)
            self.check_form(basis)
            self.assertEqual(len(basis), min(height, 20))
            self.assertTrue(all(pieces(basis, line) is not None for line in rows))
            self.assertEqual(basic(tuple(rows[::-1])), basis)
        self.assertEqual(basic(some_rows(40, 40, 20, most=10 ** 60 - 1)),
                         tuple(tuple(int(at == place) for place in range(20)) for at in range(20)))

    def test_long_integers_with_leading_ones_above_1(self):
        chance = Random(5)
        factors = [wide(at, 30) for at in range(20)]
        rows = [tuple(chance.randint(-10 ** 30, 10 ** 30) * factor for factor in factors) for _ in range(40)]
        basis = basic(rows)
        self.check_form(basis)
        self.assertTrue(all(pieces(basis, line) is not None for line in rows))
        self.assertEqual(basic(rows[::-1]), basis)
        corner = [tuple(wide(f"{at} {place}", 60) if place >= at else 0 for place in range(20)) for at in range(20)]
        basis = basic(corner)
        self.check_form(basis)
        self.assertEqual([basis[at][at] for at in range(20)], [corner[at][at] for at in range(20)])
        self.assertEqual(basic(corner[::-1]), basis)

    def test_one_integer_of_60_digits(self):
        top, other = 10 ** 60 - 1, 10 ** 59
        self.assertEqual(basic([(top,), (other,)]), ((1,),))
        self.assertEqual(basic([(6 * other,), (-4 * other,)]), ((2 * other,),))
        self.assertEqual(basic([(top, 1), (0, top)]), ((top, 1), (0, top)))


class Pieces(unittest.TestCase):
    def test_ordinary(self):
        basis = ((2, 1, 0), (0, 3, 1))
        self.assertEqual(pieces(basis, (2, 1, 0)), (1, 0))
        self.assertEqual(pieces(basis, (4, -1, -1)), (2, -1))
        self.assertEqual(pieces(basis, (0, 0, 0)), (0, 0))
        found = pieces(basis=basis, row=(-6, 0, 1))
        self.assertEqual(found, (-3, 1))
        self.assertIs(type(found), tuple)
        self.assertTrue(all(type(integer) is int for integer in found))

    def test_a_row_that_is_no_sum_with_integers(self):
        basis = ((2, 1, 0), (0, 3, 1))
        self.assertIsNone(pieces(basis, (1, 0, 0)))
        self.assertIsNone(pieces(basis, (1, 2, 0)))
        self.assertIsNone(pieces(basis, (2, 2, 0)))
        self.assertIsNone(pieces(basis, (0, 0, 1)))
        self.assertIsNone(pieces(basis, (2, 1, 1)))
        self.assertIsNone(pieces(basis, (2, 4, 2)))
        self.assertIsNone(pieces(((0, 1),), (1, 0)))
        self.assertIsNone(pieces(((0, 0, 5),), (1, 1, 5)))
        self.assertIsNone(pieces(((4,),), (-2,)))

    def test_without_rows(self):
        for none in ((), (0,), (0, 0, 0)):
            found = pieces((), none)
            self.assertEqual(found, ())
            self.assertIs(type(found), tuple)
        self.assertIsNone(pieces((), (1,)))
        self.assertIsNone(pieces((), (0, 0, -1)))
        self.assertEqual(pieces([], (0, 0)), ())

    def test_exactly_the_integers(self):
        chance = Random(7)
        for seed in range(60):
            basis = basic(some_rows(seed, 1 + seed % 6, 5, most=20))
            counts = tuple(chance.randint(-10 ** 6, 10 ** 6) for _ in basis)
            self.assertEqual(pieces(basis, sum_of(counts, basis, 5)), counts)
            self.assertEqual(pieces(list(basis), sum_of(counts, basis, 5)), counts)

    def test_every_small_row(self):
        basis = basic([(2, 1), (0, 4)])
        sums = {sum_of(counts, basis, 2): counts for counts in itertools.product(range(-9, 10), repeat=2)}
        for line in itertools.product(range(-6, 7), repeat=2):
            self.assertEqual(pieces(basis, line), sums.get(line))

    def test_integers_of_60_digits(self):
        basis = basic(some_rows(1, 19, 20, most=10 ** 60 - 1))
        counts = tuple((-1) ** at * wide(at, 60) for at in range(19))
        line = sum_of(counts, basis, 20)
        self.assertEqual(pieces(basis, line), counts)
        self.assertIsNone(pieces(basis, line[:19] + (line[19] + 1,)))
        top = 10 ** 60 - 1
        self.assertEqual(pieces(((1, 0), (0, 1)), (top, -top)), (top, -top))
        self.assertIsNone(pieces(((top, 0), (0, 2)), (top, top)))


class NothingPassedChanges(unittest.TestCase):
    def test_what_is_passed_stays_and_asking_again_gives_the_same(self):
        for kind in (list, tuple):
            rows = kind(some_rows(2, 5, 4))
            told = copy.deepcopy(rows)
            basis = basic(rows)
            self.assertEqual(rows, told)
            self.assertEqual(basic(rows), basis)
            again = copy.deepcopy(basis)
            answer = pieces(basis, told[0])
            self.assertEqual(pieces(basis, told[0]), answer)
            self.assertEqual(basis, again)

    def test_changing_it_afterwards_changes_nothing(self):
        rows = [(2, 1), (0, 3)]
        basis = basic(rows)
        rows[0] = (1, 1)
        rows.append((0, 1))
        self.assertEqual(basis, ((2, 1), (0, 3)))
        self.assertEqual(basic(rows), ((1, 0), (0, 1)))


if __name__ == "__main__":
    unittest.main()
