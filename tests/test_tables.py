"""Points 0.4, 0.5, 1.2 and 1.3, and the interface under wordworth/tables.py."""

import unittest

from helpers import (
    assert_reduced, assert_row, assert_same, assert_table, plain, plain_table, product_of, ratio, reduced_of, row,
    some_table, table, wide,
)
from wordworth.ratios import Ratio
from wordworth.tables import inverse, rank, reduced, row_times, solve, times, unit

SHAPES = [(1, 1), (1, 4), (4, 1), (2, 3), (3, 2), (3, 3), (5, 5), (4, 7), (7, 4), (8, 8)]


def hilbert(size):
    """A table whose inverse is known to be whole, with very long numbers."""
    return tuple(tuple(Ratio(1, at + place + 1) for place in range(size)) for at in range(size))


def long_table(seed, height, width):
    """A table with numbers of 2,000 digits above and below."""
    return tuple(
        tuple(Ratio((-1) ** (at + place) * wide(f"{seed} {at} {place} top"), wide(f"{seed} {at} {place} bottom"))
              for place in range(width))
        for at in range(height)
    )


class Products(unittest.TestCase):
    def test_times(self):
        found = times(table([1, 2], [3, 4]), table([0, 1], ["1/2", -1]))
        assert_same(self, found, table([1, -1], [2, -1]))
        assert_table(self, found)

    def test_times_of_other_shapes(self):
        assert_same(self, times(table([1, 2, 3]), table([1], [10], [100])), table([321]))
        assert_same(self, times(table([1], [10], [100]), table([1, 2, 3])),
                    table([1, 2, 3], [10, 20, 30], [100, 200, 300]))
        assert_same(self, times(table(["2/3"]), table(["3/2"])), table([1]))

    def test_times_against_the_definition(self):
        for seed, (height, middle) in enumerate(SHAPES):
            for width in (1, 2, 5):
                one = some_table(seed, height, middle, zeros=20)
                other = some_table(seed + 100, middle, width, zeros=20)
                found = times(one, other)
                assert_table(self, found)
                assert_same(self, plain_table(found), product_of(plain_table(one), plain_table(other)))

    def test_order_matters(self):
        one, other = table([1, 1], [0, 1]), table([1, 0], [1, 1])
        assert_same(self, times(one, other), table([2, 1], [1, 1]))
        assert_same(self, times(other, one), table([1, 1], [1, 2]))

    def test_times_with_rows_of_no_numbers(self):
        assert_same(self, times(table([1, 2], [3, 4]), ((), ())), ((), ()))
        assert_same(self, times(table([1], [2], [3]), ((),)), ((), (), ()))

    def test_unit_changes_nothing(self):
        one = some_table(7, 4, 6)
        assert_same(self, times(unit(4), one), one)
        assert_same(self, times(one, unit(6)), one)

    def test_row_times(self):
        found = row_times(row(1, "1/2"), table([2, 4, 0], [6, -8, 1]))
        assert_same(self, found, row(5, 0, "1/2"))
        assert_row(self, found)

    def test_row_times_of_other_shapes(self):
        assert_same(self, row_times(row(3), table([1, -2])), row(3, -6))
        assert_same(self, row_times(row(3, 4), ((), ())), ())
        assert_same(self, row_times(row(3, 4), table([1], [1])), row(7))

    def test_row_times_is_the_product_with_one_row(self):
        for seed, (middle, width) in enumerate(SHAPES):
            one = some_table(seed, 1, middle)
            other = some_table(seed + 50, middle, width)
            assert_same(self, (row_times(one[0], other),), times(one, other))

    def test_60_rows_and_columns(self):
        one, other = some_table(1, 60, 60), some_table(2, 60, 60)
        found = times(one, other)
        wanted = product_of(plain_table(one), plain_table(other))
        assert_same(self, plain_table(found), wanted)
        assert_same(self, plain(row_times(one[59], other)), wanted[59])

    def test_numbers_of_2000_digits(self):
        one, other = long_table(1, 2, 3), long_table(2, 3, 2)
        assert_same(self, plain_table(times(one, other)), product_of(plain_table(one), plain_table(other)))
        assert_same(self, (row_times(one[1], other),), times(one[1:], other))

    def test_unit_times_60_by_60_numbers_of_2000_digits(self):
        one = tuple(
            tuple(Ratio(at - place, 10 ** 1999 + 60 * at + place) for place in range(60)) for at in range(60)
        )
        assert_same(self, times(unit(60), one), one)


class Units(unittest.TestCase):
    def test_units(self):
        assert_same(self, unit(0), ())
        assert_same(self, unit(1), table([1]))
        assert_same(self, unit(3), table([1, 0, 0], [0, 1, 0], [0, 0, 1]))

    def test_all_sizes(self):
        for size in range(61):
            found = unit(size)
            assert_table(self, found)
            assert_same(self, [[number.text() for number in line] for line in found],
                        [[str(int(at == place)) for place in range(size)] for at in range(size)])


class ReducedForm(unittest.TestCase):
    def test_ordinary(self):
        assert_same(self, reduced(table([2, 4], [1, 3])), table([1, 0], [0, 1]))
        assert_same(self, reduced(table([2, 4, 6], [1, 2, 5])), table([1, 2, 0], [0, 0, 1]))
        assert_same(self, reduced(table([0, 2, 1], [0, 0, 0], [3, 0, 1])),
                    table([1, 0, "1/3"], [0, 1, "1/2"]))

    def test_edges(self):
        assert_same(self, reduced(()), ())
        assert_same(self, reduced(((),)), ())
        assert_same(self, reduced(((), (), ())), ())
        assert_same(self, reduced(table([0])), ())
        assert_same(self, reduced(table([0, 0], [0, 0], [0, 0])), ())
        assert_same(self, reduced(table(["-3/4"])), table([1]))

    def test_one_row(self):
        assert_same(self, reduced(table([0, 0, -2, 3])), table([0, 0, 1, "-3/2"]))
        assert_same(self, reduced(table(["1/2", "1/3", 0])), table([1, "2/3", 0]))

    def test_rows_of_0_among_others(self):
        assert_same(self, reduced(table([0, 0], [5, 10], [0, 0])), table([1, 2]))

    def test_dependent_rows(self):
        assert_same(self, reduced(table([1, 2], [2, 4], ["-1/3", "-2/3"])), table([1, 2]))
        assert_same(self, reduced(table([1, 1, 0], [0, 1, 1], [1, 2, 1], [1, 0, -1])),
                    table([1, 0, -1], [0, 1, 1]))

    def test_leads_that_are_found_from_right_to_left(self):
        assert_same(self, reduced(table([0, 0, 2], [0, 3, 1], [5, 1, 1])), unit(3))
        assert_same(self, reduced(table([0, 1, 1], [1, 1, 0], [1, 2, 5])), unit(3))
        assert_same(self, reduced(table([0, 1, 1, 0], [1, 1, 0, 1], [1, 2, 1, 2])),
                    table([1, 0, -1, 0], [0, 1, 1, 0], [0, 0, 0, 1]))

    def test_rows_in_any_order_and_repeated(self):
        one, two, three = some_table(5, 3, 5, zeros=30)
        wanted = reduced((one, two, three))
        for rows in ((three, two, one), (two, one, three), (one, one, two, three, two), (three, one, two, three)):
            assert_same(self, reduced(rows), wanted)

    def test_sums_of_rows_span_the_same_space(self):
        rows = some_table(6, 4, 7)
        mixed = times(table([1, 2, 0, 0], [0, "1/2", 0, 1], [1, 0, -1, 0], [0, 0, 0, 5], [1, 1, 1, 1]), rows)
        assert_same(self, reduced(mixed), reduced(rows))

    def test_against_the_usual_steps(self):
        for seed in range(60):
            for height, width in SHAPES:
                rows = some_table(seed, height, width, zeros=(seed % 4) * 25, most=1 + seed % 9)
                found = reduced(rows)
                assert_reduced(self, found)
                assert_same(self, plain_table(found), reduced_of(plain_table(rows)))
                assert_same(self, rank(rows), len(found))

    def test_reduced_again_is_the_same(self):
        for seed in range(10):
            found = reduced(some_table(seed, 4, 6, zeros=40))
            assert_same(self, reduced(found), found)

    def test_numbers_of_2000_digits(self):
        for height, width in ((1, 5), (2, 2), (2, 3), (3, 2), (3, 3)):
            rows = long_table(height, height, width)
            found = reduced(rows)
            assert_reduced(self, found)
            assert_same(self, plain_table(found), reduced_of(plain_table(rows)))
        one = long_table(9, 1, 4)[0]
        other = tuple(number * Ratio(-2, 3) for number in one)
        assert_same(self, reduced((one, other)), reduced((one,)))

    def test_60_rows_or_columns(self):
        rows = some_table(11, 20, 60)
        found = reduced(rows)
        assert_reduced(self, found)
        assert_same(self, plain_table(found), reduced_of(plain_table(rows)))
        assert_same(self, reduced(times(some_table(12, 60, 20), rows)), found)
        assert_same(self, reduced(some_table(13, 60, 60)), unit(60))
        assert_same(self, reduced(some_table(14, 60, 1)), unit(1))
        found = reduced(long_table(15, 1, 60))
        assert_same(self, plain_table(found), reduced_of(plain_table(long_table(15, 1, 60))))


class Ranks(unittest.TestCase):
    def test_ranks(self):
        cases = [
            ((), 0), (((),), 0), (((), ()), 0), (table([0, 0]), 0), (table([0], [0]), 0), (table([7]), 1),
            (table([0, 3]), 1), (table([1, 2], [2, 4]), 1), (table([1, 2], [2, 5]), 2), (table([1], [2], [3]), 1),
            (table([1, 2, 3], [4, 5, 6], [7, 8, 9]), 2), (table([1, 2, 3], [4, 5, 6], [7, 8, 10]), 3),
            (table(["1/2", "1/3"], ["3/2", 1]), 1),
        ]
        for rows, wanted in cases:
            with self.subTest(wanted=wanted, rows=len(rows)):
                found = rank(rows)
                assert_same(self, found, wanted)
                self.assertIs(type(found), int)

    def test_60_rows_and_columns(self):
        assert_same(self, rank(unit(60)), 60)
        assert_same(self, rank(some_table(1, 60, 60)), 60)
        assert_same(self, rank(times(some_table(2, 60, 17), some_table(3, 17, 60))), 17)
        assert_same(self, rank(hilbert(60)), 60)
        assert_same(self, rank(some_table(4, 60, 3)), 3)
        assert_same(self, rank(some_table(5, 3, 60)), 3)

    def test_numbers_that_differ_in_the_last_of_2000_digits(self):
        top = wide(1)
        assert_same(self, rank(table([1, top], [1, top])), 1)
        assert_same(self, rank(table([1, top], [1, top + 1])), 2)


class Solutions(unittest.TestCase):
    def test_ordinary(self):
        found = solve(table([1, 2], [3, 4]), row(5, 6))
        assert_same(self, found, row(-1, 2))
        assert_row(self, found)
        assert_same(self, solve(table([2, 0, 4]), row(3, 0, 6)), row("3/2"))
        assert_same(self, solve(table([0, 0, 1], [1, 1, 0]), row(2, 2, "-1/2")), row("-1/2", 2))

    def test_numbers_stand_in_the_order_of_the_rows(self):
        assert_same(self, solve(table([0, 1], [1, 0]), row(3, 4)), row(4, 3))
        assert_same(self, solve(table([0, 0, 2], [0, 3, 0], [5, 0, 0]), row(1, 1, 1)), row("1/2", "1/3", "1/5"))

    def test_a_row_that_is_no_sum(self):
        self.assertIsNone(solve(table([1, 2]), row(1, 3)))
        self.assertIsNone(solve(table([1, 0, 0], [0, 1, 0]), row(0, 0, 1)))
        self.assertIsNone(solve(table([1, 2, 0], [0, 1, 1]), row(1, 3, 2)))
        self.assertIsNone(solve(table([0, 1]), row(1, 0)))

    def test_wanted_0(self):
        assert_same(self, solve(table([1, 2], [3, 4]), row(0, 0)), row(0, 0))
        assert_same(self, solve(table([0, 1]), row(0, 0)), row(0))

    def test_without_rows(self):
        for wanted in ((), row(0), row(0, 0, 0)):
            found = solve((), wanted)
            self.assertIs(type(found), tuple)
            assert_same(self, found, ())
        self.assertIsNone(solve((), row(1)))
        self.assertIsNone(solve((), row(0, 0, "-1/7")))
        self.assertIsNone(solve((), row(1, 0)))

    def test_independent_rows_of_many_shapes(self):
        for seed in range(40):
            for height, width in SHAPES:
                rows = some_table(seed, height, width, zeros=30)
                if rank(rows) < height:
                    continue
                numbers = some_table(seed + 1, 1, height, zeros=20)[0]
                assert_same(self, solve(rows, row_times(numbers, rows)), numbers)
                beside = some_table(seed + 2, 1, width)[0]
                found = solve(rows, beside)
                if rank(rows + (beside,)) > height:
                    self.assertIsNone(found)
                else:
                    assert_same(self, row_times(found, rows), beside)

    def test_60_rows_and_columns(self):
        rows = some_table(21, 60, 60)
        numbers = some_table(22, 1, 60)[0]
        assert_same(self, solve(rows, row_times(numbers, rows)), numbers)
        few = rows[:30]
        wanted = row_times(numbers[:30], few)
        assert_same(self, solve(few, wanted), numbers[:30])
        self.assertIsNone(solve(few, wanted[:59] + (wanted[59] + Ratio(1),)))
        one = long_table(23, 1, 60)
        assert_same(self, solve(one, tuple(number * Ratio(-5, 9) for number in one[0])), row("-5/9"))

    def test_numbers_of_2000_digits(self):
        rows = long_table(24, 2, 3)
        numbers = long_table(25, 1, 2)[0]
        wanted = row_times(numbers, rows)
        assert_same(self, solve(rows, wanted), numbers)
        self.assertIsNone(solve(rows, wanted[:2] + (wanted[2] + Ratio(1, wide(26)),)))


class Inverses(unittest.TestCase):
    def test_ordinary(self):
        found = inverse(table([1, 2], [3, 4]))
        assert_same(self, found, table([-2, 1], ["3/2", "-1/2"]))
        assert_table(self, found)
        assert_same(self, inverse(table(["-2/3"])), table(["-3/2"]))
        assert_same(self, inverse(table([0, 1], [1, 0])), table([0, 1], [1, 0]))
        assert_same(self, inverse(table([0, 0, 2], [4, 0, 0], [0, "1/3", 0])),
                    table([0, "1/4", 0], [0, 0, 3], ["1/2", 0, 0]))

    def test_of_no_rows(self):
        found = inverse(())
        self.assertIs(type(found), tuple)
        assert_same(self, found, ())

    def test_without_an_inverse(self):
        self.assertIsNone(inverse(table([0])))
        self.assertIsNone(inverse(table([0, 0], [0, 0])))
        self.assertIsNone(inverse(table([1, 2], [2, 4])))
        self.assertIsNone(inverse(table([0, 1], [0, 1])))
        self.assertIsNone(inverse(table([1, 0], [1, 0])))
        self.assertIsNone(inverse(table([1, 2, 3], [4, 5, 6], [7, 8, 9])))
        self.assertIsNone(inverse(table([1, 2, 3], [0, 0, 0], [7, 8, 9])))
        self.assertIsNone(inverse(table([1, 0, 3], [5, 0, 1], [7, 0, 9])))

    def test_products_with_the_inverse(self):
        for seed in range(60):
            size = 1 + seed % 7
            one = some_table(seed, size, size, zeros=(seed % 3) * 25)
            found = inverse(one)
            if rank(one) < size:
                self.assertIsNone(found)
            else:
                assert_table(self, found)
                assert_same(self, times(one, found), unit(size))
                assert_same(self, times(found, one), unit(size))
                assert_same(self, inverse(found), one)

    def test_60_rows_and_columns(self):
        one = some_table(31, 60, 60)
        assert_same(self, times(one, inverse(one)), unit(60))
        found = inverse(hilbert(60))
        assert_same(self, times(hilbert(60), found), unit(60))
        self.assertTrue(all(number.is_whole for line in found for number in line))
        assert_same(self, found[0][0], Ratio(3600))
        again = one[:59] + (row_times(some_table(32, 1, 59)[0], one[:59]),)
        self.assertIsNone(inverse(again))
        assert_same(self, inverse(unit(60)), unit(60))

    def test_numbers_of_2000_digits(self):
        one = long_table(33, 3, 3)
        assert_same(self, times(inverse(one), one), unit(3))
        first = long_table(34, 1, 2)[0]
        self.assertIsNone(inverse((first, tuple(number * Ratio(7, 11) for number in first))))
        corners = [Ratio(wide(at), wide(at + 100)) for at in range(60)]
        one = tuple(tuple(corners[at] if at == place else Ratio(0) for place in range(60)) for at in range(60))
        found = inverse(one)
        assert_same(self, [found[at][at] for at in range(60)], [Ratio(1).over(number) for number in corners])


class NothingPassedChanges(unittest.TestCase):
    def asked(self, one, other, first):
        answers = [
            times(one, other), row_times(first, one), reduced(one), rank(one), solve(one, first), inverse(one), unit(3),
        ]
        return [self.texts(answer) for answer in answers]

    def texts(self, value):
        if isinstance(value, tuple):
            return [self.texts(item) for item in value]
        return value.text() if isinstance(value, Ratio) else value

    def test_what_is_passed_stays_and_asking_again_gives_the_same(self):
        for seed in range(5):
            one, other = some_table(seed, 3, 3), some_table(seed + 10, 3, 4)
            first = some_table(seed + 20, 1, 3)[0]
            told = self.texts((one, other, first))
            answer = self.asked(one, other, first)
            assert_same(self, self.texts((one, other, first)), told)
            assert_same(self, self.asked(one, other, first), answer)
            again = [tuple(tuple(ratio(text) for text in line) for line in self.texts(rows)) for rows in (one, other)]
            assert_same(self, self.asked(again[0], again[1], tuple(ratio(text) for text in self.texts(first))), answer)

    def test_arguments_by_name(self):
        one = table([1, 2], [3, 4])
        assert_same(self, times(one=one, other=unit(2)), one)
        assert_same(self, row_times(row=one[0], table=unit(2)), one[0])
        assert_same(self, unit(size=2), unit(2))
        assert_same(self, reduced(rows=one), unit(2))
        assert_same(self, rank(rows=one), 2)
        assert_same(self, solve(rows=one, wanted=one[1]), row(0, 1))
        assert_same(self, inverse(table=unit(2)), unit(2))


if __name__ == "__main__":
    unittest.main()
