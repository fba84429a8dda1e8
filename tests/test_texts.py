"""Points 0.4, 0.5, 3.2, 3.3 and 3.4, and the interface under wordworth/texts.py."""

import copy
import itertools
import re
import unittest
from random import Random

from helpers import assert_row, assert_same, ratio, size_and_depth, some_machine, some_term, wide
from wordworth.errors import BadText
from wordworth.ratios import Ratio
from wordworth.terms import term_of
from wordworth.texts import read_sum, write_sum

A, B, C, D = (("letter", letter) for letter in "abcd")
PART = r"(?:[abcd]|(?:0|-?[1-9][0-9]*)(?:/[1-9][0-9]*)?)\**"
SUM = rf"{PART}(?:[+.]{PART})*"


def number(text):
    return ("number", ratio(text))


def plus(one, other):
    return ("plus", one, other)


def in_row(one, other):
    return ("row", one, other)


def star(term):
    return ("star", term)


def is_text(text):
    """True if the string is one of the grammar: each inmost bracket is as good as a letter."""
    shorter = re.sub(rf"\({SUM}\)", "a", text)
    while shorter != text:
        text, shorter = shorter, re.sub(rf"\({SUM}\)", "a", shorter)
    return re.fullmatch(SUM, text) is not None


def may_go_on(text):
    """True if some string of the grammar begins with this one."""
    closed = ")" * max(0, text.count("(") - text.count(")"))
    return any(is_text(text + end + closed) for end in ("", "a", "1"))


def wrong_place(text):
    """The place of a string, straight from point 3.4, or None if it is right; brackets are counted elsewhere."""
    for at in range(len(text)):
        if not may_go_on(text[:at + 1]):
            return at
    return None if is_text(text) else len(text)


def term_by_cuts(text):
    """The term of a right text, found by cutting it at its last sign of the weakest kind outside of brackets."""
    for sign, kind in (("+", "plus"), (".", "row")):
        depth = 0
        for at in range(len(text) - 1, -1, -1):
            depth += (text[at] == ")") - (text[at] == "(")
            if depth == 0 and text[at] == sign:
                return (kind, term_by_cuts(text[:at]), term_by_cuts(text[at + 1:]))
    if text.endswith("*"):
        return ("star", term_by_cuts(text[:-1]))
    if text.startswith("("):
        return term_by_cuts(text[1:-1])
    return ("letter", text) if text in "abcd" else number(text)


def without_bracket(text, opening):
    """The text without the bracket at this place and the one that closes it."""
    depth = 0
    for at in range(opening, len(text)):
        depth += (text[at] == "(") - (text[at] == ")")
        if depth == 0:
            return text[:opening] + text[opening + 1:at] + text[at + 1:]
    raise AssertionError(text)


class TextsTest(unittest.TestCase):
    def refused(self, text, place):
        with self.assertRaises(BadText) as context:
            read_sum(text)
        self.assertEqual((text, context.exception.what), (text, place))
        self.assertIs(type(context.exception.what), int)

    def check_both(self, term, text):
        told = copy.deepcopy(term)
        self.assertEqual(write_sum(term), text)
        self.assertEqual(write_sum(term=term), text)
        self.assertEqual(term, told)
        assert_same(self, read_sum(text), term)
        assert_same(self, read_sum(text=text), term)


class Both(TextsTest):
    def test_parts(self):
        for letter in "abcd":
            self.check_both(("letter", letter), letter)
        for text in ("0", "1", "-1", "10", "907", "-907", "1/2", "-1/2", "10/9", "-340/7"):
            self.check_both(number(text), text)

    def test_signs_of_one_kind_associate_to_the_left(self):
        self.check_both(plus(plus(A, B), C), "a+b+c")
        self.check_both(in_row(in_row(A, B), C), "a.b.c")
        self.check_both(star(star(star(A))), "a***")
        self.check_both(plus(plus(plus(A, A), B), B), "a+a+b+b")

    def test_which_sign_binds_more(self):
        self.check_both(plus(in_row(A, B), in_row(C, D)), "a.b+c.d")
        self.check_both(in_row(star(A), star(B)), "a*.b*")
        self.check_both(plus(A, star(B)), "a+b*")
        self.check_both(plus(plus(A, in_row(B, star(C))), D), "a+b.c*+d")
        self.check_both(star(number("-1/2")), "-1/2*")
        self.check_both(in_row(number("2"), A), "2.a")

    def test_brackets_where_they_are_asked_for(self):
        self.check_both(in_row(plus(A, B), C), "(a+b).c")
        self.check_both(in_row(A, plus(B, C)), "a.(b+c)")
        self.check_both(star(plus(A, B)), "(a+b)*")
        self.check_both(plus(A, plus(B, C)), "a+(b+c)")
        self.check_both(star(in_row(A, B)), "(a.b)*")
        self.check_both(in_row(A, in_row(B, C)), "a.(b.c)")

    def test_no_brackets_elsewhere(self):
        self.check_both(plus(plus(A, B), C), "a+b+c")
        self.check_both(plus(in_row(A, B), C), "a.b+c")
        self.check_both(plus(A, in_row(B, C)), "a+b.c")
        self.check_both(plus(star(A), star(B)), "a*+b*")
        self.check_both(in_row(in_row(A, B), C), "a.b.c")
        self.check_both(in_row(star(A), B), "a*.b")
        self.check_both(in_row(A, star(B)), "a.b*")
        self.check_both(star(star(in_row(A, B))), "(a.b)**")
        self.check_both(star(star(A)), "a**")
        self.check_both(plus(number("-1"), number("-2")), "-1+-2")
        self.check_both(in_row(number("-1/2"), number("-2/3")), "-1/2.-2/3")

    def test_deeper(self):
        self.check_both(star(plus(in_row(A, plus(B, number("1/3"))), star(in_row(C, C)))), "(a.(b+1/3)+(c.c)*)*")
        self.check_both(plus(A, plus(B, plus(C, D))), "a+(b+(c+d))")
        self.check_both(in_row(A, in_row(B, in_row(C, D))), "a.(b.(c.d))")
        self.check_both(in_row(in_row(A, plus(B, C)), plus(plus(A, D), plus(B, C))), "a.(b+c).(a+d+(b+c))")

    def test_terms_that_are_written_and_read_again(self):
        for seed in range(400):
            term = some_term(seed, 1 + seed % 9, "abcd")
            text = write_sum(term)
            self.check_both(term, text)
            self.assertEqual(write_sum(read_sum(text)), text)
            for opening in [at for at, sign in enumerate(text) if sign == "("]:
                fewer = without_bracket(text, opening)
                self.assertFalse(is_text(fewer) and read_sum(fewer) == term, (text, fewer))

    def test_all_small_terms(self):
        small = [A, number("-2")]
        two = [(kind, one, other) for kind in ("plus", "row") for one in small for other in small]
        two += [star(one) for one in small]
        more = [(kind, one, other) for kind in ("plus", "row") for one in two for other in two + small]
        more += [star(one) for one in two] + [(kind, A, other) for kind in ("plus", "row") for other in two]
        for term in small + two + more:
            text = write_sum(term)
            self.assertTrue(is_text(text))
            assert_same(self, read_sum(text), term)
            assert_same(self, term_by_cuts(text), term)

    def test_numbers_with_long_digits(self):
        top, bottom = wide(1, 190), wide(2, 190)
        found = read_sum(f"-{top}/{bottom}.a")
        assert_same(self, found, in_row(("number", Ratio(-top, bottom)), A))
        self.assertEqual(read_sum("9" * 400), ("number", Ratio(10 ** 400 - 1)))
        self.check_both(("number", Ratio(wide(3, 40), 10 ** 39 + 3)), f"{wide(3, 40)}/{10 ** 39 + 3}")
        long = ("number", Ratio(10 ** 1999 + 1, 10 ** 1999))
        self.assertEqual(write_sum(plus(A, long)), f"a+{10 ** 1999 + 1}/{10 ** 1999}")

    def test_terms_of_machines_are_written(self):
        for seed in range(8):
            term = term_of(some_machine(seed, 2, seed % 5, zeros=40))
            text = write_sum(term)
            self.assertTrue(is_text(text))
            if len(text) < 3000:
                assert_same(self, term_by_cuts(text), term)
            if len(text) <= 400:
                assert_same(self, read_sum(text), term)

    def test_asking_again_gives_the_same(self):
        for text in ("(a+b)*.2", "-1/3"):
            assert_same(self, read_sum(text), read_sum(text))
        self.refused("a+", 2)
        self.refused("a+", 2)


class Reading(TextsTest):
    def test_kinds(self):
        found = read_sum("(1/2.a+b)*")
        self.assertEqual([type(found), type(found[1]), type(found[1][1])], [tuple] * 3)
        assert_row(self, (found[1][1][1][1],))
        self.assertEqual(found, star(plus(in_row(number("1/2"), A), B)))

    def test_numbers_need_not_stand_in_lowest_terms(self):
        for text, wanted in (("0/5", "0"), ("4/6", "2/3"), ("-4/6", "-2/3"), ("5/1", "5"), ("-30/10", "-3"),
                             ("0/1", "0"), ("12/12", "1"), ("100/20", "5")):
            found = read_sum(text)
            assert_row(self, found[1:])
            assert_same(self, found, number(wanted))
            self.assertEqual(write_sum(found), wanted)

    def test_brackets_that_are_not_needed(self):
        cases = [
            ("(a)", A), ("((a))", A), ("(a)*", star(A)), ("(a*)*", star(star(A))), ("(-1/2)", number("-1/2")),
            ("(a+b)+c", plus(plus(A, B), C)), ("(a.b).c", in_row(in_row(A, B), C)),
            ("(a.b)+(c)", plus(in_row(A, B), C)), ("((a+b)*)", star(plus(A, B))),
        ]
        for text, wanted in cases:
            assert_same(self, read_sum(text), wanted)

    def test_stars_that_are_not_allowed_are_read(self):
        assert_same(self, read_sum("1*"), star(number("1")))
        assert_same(self, read_sum("a**"), star(star(A)))
        assert_same(self, read_sum("(a+1)*.0*"), in_row(star(plus(A, number("1"))), star(number("0"))))

    def test_the_places_that_the_document_names(self):
        for text, place in (("-0", 1), ("00", 1), ("1/0", 2), ("a+", 2), ("(a", 2), ("2a", 1), ("a b", 1)):
            self.refused(text, place)

    def test_strings_that_end_too_early(self):
        for text in ("", "(", "((", "-", "a.", "a+-", "1/", "-1/", "0/", "(a+b", "(a)+(", "a*+", "(1/2", "((a)*.b"):
            self.refused(text, len(text))

    def test_minus_and_slash_at_wrong_places(self):
        for text, place in (
            ("--1", 1), ("-a", 1), ("-(1)", 1), ("-/2", 1), ("-+", 1), ("-*", 1), ("-)", 1), ("-.", 1), ("-01", 1),
            ("1-", 1), ("1-1", 1), ("a-1", 1), ("a-", 1), ("(1)-1", 3), ("a*-1", 2), ("0-1", 1), ("1/-2", 2),
            ("1/2-", 3), ("/", 0), ("/2", 0), ("a/2", 1), ("(1)/2", 3), ("1*/2", 2), ("1//2", 2), ("1/2/3", 3),
            ("1/a", 2), ("1/(2)", 2), ("1/02", 2), ("1/*", 2), ("1/+", 2), ("0//1", 2), ("0/0", 2), ("-1/0", 3),
            ("1/)", 2), ("a+/2", 2), ("a./2", 2), ("(/2)", 1), ("-0/5", 1), ("-00", 1), ("0/-1", 2),
        ):
            self.refused(text, place)

    def test_signs_letters_and_brackets_at_wrong_places(self):
        for text, place in (
            ("+", 0), ("*", 0), (".", 0), (")", 0), ("()", 1), ("(+a)", 1), ("(*", 1), ("(.", 1), ("a)", 1),
            ("(a))", 3), ("a++b", 2), ("a..b", 2), ("a+.b", 2), ("a.+b", 2), ("a+*", 2), ("a.*", 2),
            ("a+)", 2), ("(a+)", 3), ("ab", 1), ("a1", 1), ("a(b)", 1), ("(a)b", 3), ("(a)(b)", 3), ("a*b", 2),
            ("a*2", 2), ("a*(b)", 2), ("1(a)", 1), ("12a", 2), ("1/2a", 3), ("0a", 1), ("01", 1), ("012", 1),
            ("0 ", 1), ("(1/2(", 4), ("*a", 0), ("a+b)", 3),
        ):
            self.refused(text, place)

    def test_characters_that_are_in_no_text(self):
        for sign in ("e", "A", " ", "\n", "\t", "_", "[", "{", ",", "^", "\x00", "\xb2", "\u0661", "\uff11", "\u2212",
                     "\u0430", "\U0001d7d9", "x", "~"):
            self.refused(sign, 0)
            for text in ("a", "12", "0", "1/2", "(a)", "a*"):
                self.refused(text + sign, len(text))
                self.refused(text + sign + "+a", len(text))
            for text in ("a+", "-", "1/", "(", "a."):
                self.refused(text + sign, len(text))

    def test_all_short_strings(self):
        signs = "01-/a+.*()"
        right = 0
        for length in range(6):
            for picked in itertools.product(signs, repeat=length):
                text = "".join(picked)
                right += self.check_string(text)
        self.assertGreater(right, 500)

    def test_right_strings_with_one_change(self):
        chance = Random(1)
        for seed in range(150):
            text = write_sum(some_term(seed, 2 + seed % 8, "abcd"))
            for _ in range(5):
                at = chance.randrange(len(text) + 1)
                sign = chance.choice("0123456789abcd+.*()-/ e")
                self.check_string(text[:at] + sign + text[at:])
                self.check_string(text[:at] + sign + text[at + 1:])
                self.check_string(text[:at] + text[at + 1:])

    def check_string(self, text):
        """True if the string is right; what is returned or raised is checked against the definition."""
        try:
            found = read_sum(text)
        except BadText as wrong:
            self.assertEqual((text, wrong.what), (text, wrong_place(text)))
            return False
        self.assertTrue(is_text(text), text)
        assert_same(self, found, term_by_cuts(text))
        return True


class Limits(TextsTest):
    def test_400_characters(self):
        for text in ("a" + "*" * 399, "1" * 400, "a.b" + "+c" * 198 + "*", "(" + "a" + "*" * 397 + ")",
                     "-" + "1" * 397 + "/2"):
            self.assertEqual(len(text), 400)
            assert_same(self, read_sum(text), term_by_cuts(text))

    def test_401_characters(self):
        for text in ("a" + "*" * 400, "1" * 401, "a" + "+c" * 200, "(" + "a" + "*" * 398 + ")", "a" + "*" * 398 + "+a"):
            self.assertEqual(len(text), 401)
            self.refused(text, 400)
        self.refused("a" + "*" * 1000, 400)
        self.refused("a" + "+c" * 5000, 400)

    def test_wrong_characters_near_the_400th(self):
        for length in (398, 399):
            text = "1" * length
            self.refused(text + "e", length)
            self.refused(text + "e" * 100, length)
            self.refused(text + "e" + "*" * 100, length)
        self.refused("1" * 400 + "e", 400)
        self.refused("1" * 401 + "e", 400)
        self.refused("1" * 399 + ")", 399)
        self.refused("1" * 399 + "+", 400)
        self.refused("1" * 399 + "+)", 400)
        self.refused("1" * 398 + "+)", 399)
        self.refused("1" * 398 + "+)" + "1" * 9, 399)
        self.refused("a" * 500, 1)

    def test_strings_of_400_and_401_that_end_too_early(self):
        self.refused("1" * 399 + "/", 400)
        self.refused("(" + "1" * 399, 400)
        self.refused("(" + "1" * 400, 400)
        self.refused("(" + "1" * 398, 399)
        self.refused("(" + "1" * 399 + ")", 400)

    def test_18_open_brackets(self):
        for many in (1, 17, 18):
            assert_same(self, read_sum("(" * many + "a" + ")" * many), A)
            assert_same(self, read_sum("b+" + "(" * many + "a" + ")" * many), plus(B, A))
        text = "(a." * 18 + "b" + ")*" * 18
        assert_same(self, read_sum(text), term_by_cuts(text))
        self.assertEqual(write_sum(read_sum(text)), text)
        many = "+".join(["(" * 18 + "a" + ")" * 18] * 10)
        assert_same(self, read_sum(many), term_by_cuts(many))

    def test_19_open_brackets(self):
        self.refused("(" * 19 + "a" + ")" * 19, 18)
        self.refused("(" * 19, 18)
        self.refused("(" * 30, 18)
        self.refused("(a." * 19 + "b" + ")" * 19, 54)
        self.refused("(" * 18 + "a" + ")" * 17 + "+(a+" + "(" * 17 + "a", 18 + 1 + 17 + 4 + 16)
        self.refused("(" * 18 + "a)+(((", 18 + 4)
        self.refused("(" * 18, 18)
        self.refused("(" * 18 + ")", 18)

    def test_a_bracket_at_a_wrong_place_while_18_are_open(self):
        self.refused("(" * 18 + "a(", 19)
        self.refused("(" * 18 + "1(", 19)

    def test_both_limits_together(self):
        start = "1" * 370 + "+"
        self.refused(start + "(" * 19 + "a" + ")" * 19, 371 + 18)
        self.refused("1" * 380 + "+" + "(" * 18 + "(", 399)
        self.refused("1" * 381 + "+" + "(" * 18 + "(", 400)
        self.refused("1" * 380 + "+" + "(" * 18 + "(" * 9, 399)
        self.refused("1" * 381 + "+" + "(" * 18 + "(" * 9, 400)
        self.refused("1" * 382 + "+" + "(" * 18 + "(" * 9, 400)
        text = "(" * 18 + "1" * 364 + ")" * 18
        self.assertEqual(len(text), 400)
        assert_same(self, read_sum(text), number("1" * 364))
        self.refused("(" * 18 + "1" * 365 + ")" * 18, 400)
        self.refused("(" * 19 + "1" * 365 + ")" * 19, 18)

    def test_400_deep(self):
        term = read_sum("a" + "*" * 399)
        self.assertEqual(size_and_depth(term), (400, 400))
        self.assertEqual(write_sum(term), "a" + "*" * 399)
        for sign in "+.":
            text = "a" + (sign + "a") * 199
            term = read_sum(text)
            self.assertEqual(size_and_depth(term), (399, 200))
            self.assertEqual(write_sum(term), text)

    def test_writing_far_deeper_terms(self):
        term = A
        for _ in range(5000):
            term = in_row(B, star(term))
        self.assertEqual(write_sum(term), "b.(" * 4999 + "b.a*" + ")*" * 4999)


if __name__ == "__main__":
    unittest.main()
