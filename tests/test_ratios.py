"""Points 0.4, 0.5, 1.1 and 3.2 (numbers alone), and the interface under wordworth/ratios.py."""

import unittest
from fractions import Fraction

from helpers import ratio, wide
from wordworth.errors import BadNumber, WordError
from wordworth.ratios import Ratio

SMALL = [Ratio(top, bottom) for top in range(-6, 7) for bottom in range(1, 7)]


def fraction(number):
    return Fraction(number.top, number.bottom)


class Terms(unittest.TestCase):
    def parts(self, *numbers):
        found = Ratio(*numbers)
        self.assertIs(type(found.top), int)
        self.assertIs(type(found.bottom), int)
        return found.top, found.bottom

    def test_the_example_of_the_document(self):
        found = (Ratio(6, -4).top, Ratio(6, -4).bottom, Ratio(6, -4).text())
        self.assertEqual(found, (-3, 2, "-3/2"))

    def test_bottom_is_1_if_none_is_passed(self):
        self.assertEqual(self.parts(5), (5, 1))
        self.assertEqual(self.parts(-5), (-5, 1))
        self.assertEqual(self.parts(0), (0, 1))

    def test_arguments_by_name(self):
        found = Ratio(top=4, bottom=6)
        self.assertEqual((found.top, found.bottom), (2, 3))
        found = Ratio(bottom=6, top=-4)
        self.assertEqual((found.top, found.bottom), (-2, 3))
        self.assertEqual(Ratio(top=3).bottom, 1)

    def test_lowest_terms(self):
        self.assertEqual(self.parts(3, 4), (3, 4))
        self.assertEqual(self.parts(6, 4), (3, 2))
        self.assertEqual(self.parts(4, 4), (1, 1))
        self.assertEqual(self.parts(12, 4), (3, 1))
        self.assertEqual(self.parts(4, 12), (1, 3))

    def test_bottom_is_above_0(self):
        self.assertEqual(self.parts(3, -4), (-3, 4))
        self.assertEqual(self.parts(-3, 4), (-3, 4))
        self.assertEqual(self.parts(-3, -4), (3, 4))
        self.assertEqual(self.parts(6, -3), (-2, 1))
        self.assertEqual(self.parts(1, -1), (-1, 1))

    def test_0_is_0_over_1(self):
        for bottom in (1, -1, 5, -5, 10 ** 1999):
            self.assertEqual(self.parts(0, bottom), (0, 1))

    def test_against_pythons_own_fractions(self):
        for top in range(-30, 31):
            for bottom in list(range(-30, 0)) + list(range(1, 31)):
                same = Fraction(top, bottom)
                self.assertEqual(self.parts(top, bottom), (same.numerator, same.denominator))

    def test_2000_digits(self):
        top, bottom, shared = wide(1, 1000), wide(2, 1000), wide(3, 999)
        same = Fraction(top, bottom)
        self.assertEqual(self.parts(top * shared, bottom * shared), (same.numerator, same.denominator))
        self.assertEqual(self.parts(10 ** 1999, -2 * 10 ** 1998), (-5, 1))
        self.assertEqual(self.parts(10 ** 2000 - 1, 10 ** 1999), (10 ** 2000 - 1, 10 ** 1999))

    def test_somewhat_more_than_2000_digits_raise_nothing(self):
        self.assertEqual(self.parts(10 ** 2100, 3), (10 ** 2100, 3))
        self.assertEqual(Ratio(10 ** 2100).text(), "1" + 2100 * "0")

    def test_bottom_of_0(self):
        for top in (0, 1, -1, 7, wide(4)):
            with self.assertRaises(BadNumber) as context:
                Ratio(top, 0)
            self.assertIsNone(context.exception.what)
            self.assertIsInstance(context.exception, WordError)


class Signs(unittest.TestCase):
    def same(self, found, wanted):
        self.assertIs(type(found), Ratio)
        self.assertEqual((found.top, found.bottom), (wanted.numerator, wanted.denominator))

    def test_plus_minus_times_against_pythons_own_fractions(self):
        for one in SMALL:
            for other in SMALL:
                self.same(one + other, fraction(one) + fraction(other))
                self.same(one - other, fraction(one) - fraction(other))
                self.same(one * other, fraction(one) * fraction(other))

    def test_negative(self):
        for one in SMALL:
            self.same(-one, -fraction(one))
        self.same(-Ratio(0), Fraction(0))
        self.same(-Ratio(-3, 4), Fraction(3, 4))

    def test_over(self):
        for one in SMALL:
            for other in SMALL:
                if other.top:
                    self.same(one.over(other), fraction(one) / fraction(other))
        self.same(Ratio(1, 2).over(Ratio(-3, 4)), Fraction(-2, 3))
        self.same(Ratio(0).over(Ratio(-3, 4)), Fraction(0))
        self.same(Ratio(1, 2).over(other=Ratio(2)), Fraction(1, 4))

    def test_over_0(self):
        for one in (Ratio(0), Ratio(1), Ratio(-3, 4), Ratio(wide(5), 7)):
            with self.assertRaises(BadNumber) as context:
                one.over(Ratio(0, 5))
            self.assertIsNone(context.exception.what)

    def test_numbers_of_2000_digits(self):
        one, other = Ratio(wide(6), wide(7)), Ratio(-wide(8), wide(9))
        a, b = Fraction(wide(6), wide(7)), Fraction(-wide(8), wide(9))
        self.same(one + other, a + b)
        self.same(one - other, a - b)
        self.same(one * other, a * b)
        self.same(one.over(other), a / b)
        self.same(-one, -a)
        self.same(one - one, Fraction(0))
        self.same(one.over(one), Fraction(1))
        self.same(one + Ratio(1, 10 ** 1999) - one, Fraction(1, 10 ** 1999))
        self.assertIs(one.is_less(one + Ratio(1, 10 ** 1999)), True)
        self.assertIs((one + Ratio(1, 10 ** 1999)).is_less(one), False)

    def test_numbers_stay_and_the_answer_is_the_same_again(self):
        one, other = Ratio(6, -4), Ratio(5, 7)
        for _ in range(2):
            self.same(one + other, Fraction(-11, 14))
            self.same(one - other, Fraction(-31, 14))
            self.same(one * other, Fraction(-15, 14))
            self.same(one.over(other), Fraction(-21, 10))
            self.same(-one, Fraction(3, 2))
            self.assertEqual((one.text(), other.text()), ("-3/2", "5/7"))
            self.assertIs(one.is_less(other), True)
            self.assertIs(one == other, False)
            with self.assertRaises(BadNumber):
                one.over(Ratio(0))
            self.assertEqual((one.top, one.bottom, other.top, other.bottom), (-3, 2, 5, 7))

    def test_in_place_signs_make_another_number(self):
        one = kept = Ratio(1, 2)
        one += Ratio(1, 3)
        one *= Ratio(6)
        one -= Ratio(1)
        self.same(one, Fraction(4))
        self.same(kept, Fraction(1, 2))


class Comparing(unittest.TestCase):
    def test_equal(self):
        for one in SMALL:
            for other in SMALL:
                self.assertIs(one == other, fraction(one) == fraction(other))
                self.assertIs(one != other, fraction(one) != fraction(other))
        self.assertIs(Ratio(6, -4) == Ratio(-3, 2), True)
        self.assertIs(Ratio(1, 2) == Ratio(-1, 2), False)
        self.assertIs(Ratio(wide(1), wide(2)) == Ratio(3 * wide(1), 3 * wide(2)), True)
        self.assertIs(Ratio(wide(1), wide(2)) == Ratio(wide(1) + 1, wide(2)), False)

    def test_not_equal_to_what_is_no_ratio(self):
        for number in (Ratio(0), Ratio(1), Ratio(1, 2), Ratio(-3)):
            others = (0, 1, -3, True, False, None, 0.5, "", "1", "1/2", "-3", b"1", (1, 2), [1, 2], {}, object(),
                      (1, 1), Fraction(1, 2), Fraction(1), Ratio)
            for other in others:
                with self.subTest(number=number.text(), other=other):
                    self.assertIs(number == other, False)
                    self.assertIs(other == number, False)
                    self.assertIs(number != other, True)

    def test_within_tuples(self):
        self.assertEqual((Ratio(1), Ratio(2, 4)), (Ratio(1), Ratio(1, 2)))
        self.assertNotEqual((Ratio(1), Ratio(2, 4)), (Ratio(1), Ratio(1, 3)))

    def test_bool(self):
        self.assertIs(bool(Ratio(0)), False)
        self.assertIs(bool(Ratio(0, -7)), False)
        self.assertIs(bool(Ratio(1, 2) - Ratio(2, 4)), False)
        for number in (Ratio(1), Ratio(-1), Ratio(1, 10 ** 1999), Ratio(-wide(1), 3)):
            self.assertIs(bool(number), True)

    def test_is_less(self):
        for one in SMALL:
            for other in SMALL:
                self.assertIs(one.is_less(other), fraction(one) < fraction(other))
        self.assertIs(Ratio(-1, 2).is_less(other=Ratio(-1, 3)), True)
        self.assertIs(Ratio(-1, 3).is_less(Ratio(-1, 2)), False)
        self.assertIs(Ratio(1, 2).is_less(Ratio(2, 4)), False)

    def test_is_whole(self):
        for number in (Ratio(0), Ratio(0, 5), Ratio(7), Ratio(-7), Ratio(6, 3), Ratio(6, -3), Ratio(wide(1))):
            self.assertIs(number.is_whole, True)
        for number in (Ratio(1, 2), Ratio(-1, 2), Ratio(7, 3), Ratio(1, 10 ** 1999)):
            self.assertIs(number.is_whole, False)

    def test_is_whole_is_a_property(self):
        self.assertIsInstance(Ratio.__dict__["is_whole"], property)


class Text(unittest.TestCase):
    def test_texts(self):
        texts = {
            (0, 1): "0", (0, -5): "0", (7, 1): "7", (-7, 1): "-7", (1, 2): "1/2", (-1, 2): "-1/2",
            (1, -2): "-1/2", (-1, -2): "1/2", (6, 4): "3/2", (8, 4): "2", (-8, 4): "-2", (10, 100): "1/10",
            (100, 10): "10", (2, 200): "1/100",
        }
        for (top, bottom), text in texts.items():
            with self.subTest(text):
                self.assertEqual(Ratio(top, bottom).text(), text)
                self.assertIs(type(Ratio(top, bottom).text()), str)

    def test_2000_digits_above_and_below(self):
        nines, power = 10 ** 2000 - 1, 10 ** 1999
        self.assertEqual(Ratio(nines, power).text(), 2000 * "9" + "/1" + 1999 * "0")
        self.assertEqual(Ratio(-nines, power).text(), "-" + 2000 * "9" + "/1" + 1999 * "0")
        self.assertEqual(Ratio(-nines).text(), "-" + 2000 * "9")
        self.assertEqual(Ratio(1, nines).text(), "1/" + 2000 * "9")

    def test_text_tells_the_number(self):
        for number in SMALL:
            self.assertEqual(ratio(number.text()), number)
            self.assertEqual(number.text(), str(fraction(number)))


if __name__ == "__main__":
    unittest.main()
