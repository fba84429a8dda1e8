"""Points 0.1 to 0.5 over the whole program, and the examples of the document."""

import ast
import pathlib
import unittest
from fractions import Fraction

from helpers import (
    assert_same, carried, first_ones, machine, none, plain, plain_table, rank_of, ratio, some_machine, some_words,
    term_value, value_of, widened,
)
from wordworth import errors
from wordworth.alike import compare, is_same_paper
from wordworth.company import by_counts, coordinates, idle, nothing
from wordworth.errors import BadDeed, BadMachine, BadNumber, BadPaper, BadStar, BadText, BadWord, Taken, Unknown
from wordworth.finite import finite
from wordworth.house import House
from wordworth.learner import Learner
from wordworth.least import carry, is_carry, is_corner, least, row_words, column_words
from wordworth.machines import Machine
from wordworth.mixing import ahead, after, constant, plus, put, scaled, single, star, turned
from wordworth.ratios import Ratio
from wordworth.rests import rests
from wordworth.terms import machine_of, number_of, term_of
from wordworth.texts import read_sum, write_sum
from wordworth.wholes import is_whole_paper, whole, whole_machine

PACKAGE = pathlib.Path(__file__).resolve().parent.parent / "wordworth"


class MainPromises(unittest.TestCase):
    """Point 0.2, sentence by sentence."""

    def test_alike_in_every_company_exactly_if_the_tables_of_the_least_machine_say_so(self):
        told = {"nothing": 0, "company": 0}
        for seed in range(12):
            one = some_machine(f"main {seed}", 2, 1 + seed % 3, zeros=60, most=2)
            small = least(one)
            tables = {word: [number for line in plain_table(small.table(word)) for number in line]
                      for word in some_words(2, 3)}
            for word in some_words(2, 3):
                for other in some_words(2, 2):
                    found = nothing(one, ((Ratio(1), word), (Ratio(-1), other)))
                    self.assertEqual(found[0] == "nothing", tables[word] == tables[other])
                    told[found[0]] += 1
                    if found[0] == "company":
                        _, head, tail = found
                        self.assertNotEqual(one.number(head + word + tail), one.number(head + other + tail))
        self.assertGreater(min(told.values()), 50)

    def test_whole_exactly_if_there_is_a_machine_of_whole_numbers_of_the_least_size(self):
        told = {"whole": 0, "broken": 0}
        for seed in range(30):
            one = some_machine(f"whole {seed}", 1 + seed % 2, 2, zeros=60, most=2)
            found = whole(one)
            told[found[0]] += 1
            if found[0] == "whole":
                other = whole_machine(one)
                self.assertEqual(compare(one, other)[0], "same")
                self.assertEqual(other.size, least(one).size)
                numbers = [*other.start, *other.end, *[x for step in other.steps for line in step for x in line]]
                self.assertTrue(all(number.is_whole for number in numbers))
            else:
                self.assertIsNone(whole_machine(one))
                self.assertFalse(one.number(found[1]).is_whole)
        self.assertGreater(min(told.values()), 3)

    def test_the_least_machine_is_fixed_by_the_numbers_alone(self):
        for seed in range(6):
            one = some_machine(f"least {seed}", 1 + seed % 4, 3, zeros=30)
            for other in (carried(one, seed), widened(one, seed), turned(turned(widened(one, seed, 1)))):
                self.assertEqual(least(other).picture(), least(one).picture())

    def test_exactly_one_table_carries_the_one_into_the_other(self):
        for seed in range(8):
            one = least(some_machine(f"table {seed}", 1 + seed % 3, 1 + seed % 3, zeros=20))
            other = carried(one, seed)
            found = carry(one, other)
            self.assertIs(is_carry(one, other, found), True)
            # The three properties are equations for the numbers of the table, and have one solution.
            self.assertEqual(rank_of(equations(one, other)), one.size ** 2)

    def test_a_learner_is_wrong_at_most_as_often_as_the_machine_has_states(self):
        for seed in range(8):
            target = some_machine(f"learner {seed}", 1 + seed % 4, 4, zeros=40)
            learner, wrong = Learner(target.letters), 0
            while learner.wish[0] != "done":
                kind, what = learner.wish
                if kind == "word":
                    learner.tell(target.number(what))
                elif compare(target, what)[0] == "same":
                    learner.agree()
                else:
                    wrong += 1
                    learner.refuse(compare(target, what)[1])
            self.assertLessEqual(wrong, len(row_words(target)))
            self.assertEqual(least(learner.wish[1]).picture(), least(target).picture())

    def test_the_judges_take_the_papers_and_refuse_them_for_other_machines(self):
        for seed in range(8):
            one = some_machine(f"judge {seed}", 2, 2, zeros=10)
            other = carried(one, seed)
            wrong = plus(other, single(2, "ab", Ratio(1)))
            paper = compare(one, other)[1]
            self.assertIs(is_same_paper(one, other, paper), True)
            self.assertIs(is_same_paper(one, wrong, paper + ((Ratio(0),) * (2 + wrong.size),)), False)
            self.assertIs(is_corner(one, row_words(one), column_words(one)), True)
            if one.size == len(row_words(one)):
                found = carry(one, other)
                self.assertIs(is_carry(one, other, found), True)
                self.assertIs(is_carry(one, scaled(other, Ratio(2)), found), False)


def equations(one, other):
    """The sides without the table's numbers left out: one row for each equation of point 5.4."""
    size = one.size
    lines = []
    for column in range(size):
        lines.append({(at, column): number for at, number in enumerate(plain(one.start))})
    for at in range(size):
        lines.append({(at, place): number for place, number in enumerate(plain(other.end))})
    for step, its in zip(one.steps, other.steps):
        step, its = plain_table(step), plain_table(its)
        for at in range(size):
            for column in range(size):
                line = {}
                for k in range(size):
                    line[k, column] = line.get((k, column), 0) + step[at][k]
                    line[at, k] = line.get((at, k), 0) - its[k][column]
                lines.append(line)
    places = [(at, column) for at in range(size) for column in range(size)]
    return [[Fraction(line.get(place, 0)) for place in places] for line in lines]


class Document(unittest.TestCase):
    def test_examples(self):
        self.assertEqual((Ratio(6, -4).top, Ratio(6, -4).bottom, Ratio(6, -4).text()), (-3, 2, "-3/2"))
        self.assertEqual(number_of(read_sum("(2.a+b)*"), "aba").text(), "4")

    def test_all_errors_are_word_errors_of_their_own(self):
        names = ("BadNumber", "BadMachine", "BadWord", "BadStar", "BadText", "BadPaper", "BadDeed", "TooMany",
                 "Unknown", "Taken")
        for name in names:
            self.assertEqual(getattr(errors, name).__bases__, (errors.WordError,))
        raised = {name for path in PACKAGE.iterdir() for node in ast.walk(ast.parse(path.read_text()))
                  if isinstance(node, ast.Raise) for name in [node.exc.func.id]}
        self.assertEqual(raised, set(names))

    def test_no_clock_no_random_numbers_and_no_files(self):
        for path in PACKAGE.iterdir():
            for node in ast.walk(ast.parse(path.read_text())):
                if isinstance(node, ast.ImportFrom):
                    self.assertTrue(node.module.startswith("wordworth.") or node.module == "math", node.module)
                self.assertNotIsInstance(node, ast.Import)


class Together(unittest.TestCase):
    """The parts of the program one after the other."""

    def test_from_a_text_to_a_house(self):
        text = "(2.a+b.a)*.b+1/2"
        term = read_sum(text)
        self.assertEqual(write_sum(term), text)
        one = machine_of(term, 2)
        for word in some_words(2, 4):
            self.assertEqual(value_of(one, word), term_value(term, word))
        small = least(one)
        self.assertEqual(compare(one, small)[0], "same")
        back = machine_of(term_of(small), 2) if small.size < 5 else small
        self.assertEqual(compare(back, one)[0], "same")
        self.assertEqual(whole(one), ("broken", ""))
        self.assertEqual(whole(scaled(one, Ratio(2)))[0], "whole")
        self.assertEqual(finite(one)[0], "endless")
        house = House(2)
        house.put("text", small)
        house.begin("s", "text")
        house.feed("s", "aab")
        self.assertEqual(house.number("s").text(), "4")
        house.exchange("text", back, compare(small, back)[1])
        self.assertEqual(house.number("s").text(), "4")
        self.assertEqual(house.total("text", 3), ratio(sum(
            term_value(term, word) for word in some_words(2, 3) if len(word) == 3)))

    def test_a_machine_that_was_learnt_by_its_house(self):
        house = House(3)
        house.put("m", some_machine("together", 3, 3))
        house.amend("m", "cab", Ratio(5))
        target = house.machine("m")
        learner = Learner(3)
        while learner.wish[0] != "done":
            kind, what = learner.wish
            if kind == "word":
                learner.tell(target.number(what))
            elif compare(target, what)[0] == "same":
                learner.agree()
            else:
                learner.refuse(compare(target, what)[1])
        found = learner.wish[1]
        house.exchange("m", found, compare(target, found)[1])
        self.assertEqual(house.machine("m").number("cab"), Ratio(5))

    def test_company_and_rests_of_one_machine(self):
        one = machine(2, [1, 0], [([1, 0], [0, 2]), ([1, 1], [0, 2])], [0, 1])
        moves, remainders = rests(one, 5)
        basis = [ratio(number) for number in (0, 0, 1)]
        self.assertEqual(len(coordinates(one, "ab")), len(basis))
        for word in some_words(2, 5):
            at = 0
            for letter in word:
                at = moves[at]["ab".index(letter)]
            self.assertEqual(remainders[at], int("0" + word.replace("a", "0").replace("b", "1"), 2) % 5)
        self.assertEqual((by_counts(one)[0], idle(one)), ("words", ""))

    def test_row_words_are_the_same_for_all_that_is_made_alike(self):
        one = some_machine("made", 2, 3)
        again = put(one, ("a", "b"))
        self.assertEqual(row_words(again), row_words(one))
        self.assertEqual(column_words(turned(turned(one))), column_words(one))
        words = some_words(2, 2)
        self.assertEqual(row_words(one), first_ones({
            word: [value_of(ahead(one, word), other) for other in words] for word in words}))
        self.assertEqual(column_words(one), first_ones({
            word: [value_of(after(one, word), other) for other in words] for word in words}))

    def test_errors_of_several_parts_leave_everything_as_it_is(self):
        one = some_machine("errors", 2, 3)
        told = one.picture()
        house = House(2)
        house.put("m", one)
        calls = (
            (BadNumber, None, lambda: Ratio(1, 0)),
            (BadMachine, None, lambda: compare(one, none(1))),
            (BadMachine, None, lambda: carry(one, none(3))),
            (BadWord, "c", lambda: coordinates(one, "c")),
            (BadWord, "c", lambda: is_whole_paper(one, ("", "c", "d"))),
            (BadStar, None, lambda: star(constant(2, Ratio(1)))),
            (BadText, 1, lambda: read_sum("2a")),
            (BadNumber, "", lambda: rests(constant(2, Ratio(1, 2)), 7)),
            (BadPaper, None, lambda: house.exchange("m", one, ((Ratio(1),) * 6,))),
            (BadDeed, None, lambda: Learner(2).tell(Ratio(1))),
            (Unknown, "x", lambda: house.total("x", 1)),
            (Taken, "m", lambda: house.put("m", one)),
        )
        for error, what, call in calls:
            with self.assertRaises(error) as context:
                call()
            self.assertEqual(context.exception.what, what)
            self.assertEqual(one.picture(), told)
            self.assertEqual(house.machine("m").picture(), told)

    def test_machines_do_not_change_when_they_are_asked(self):
        one = Machine(2, [Ratio(1, 2), Ratio(3)], [[[Ratio(1), Ratio(2)], [Ratio(0), Ratio(1, 3)]]] * 2,
                      [Ratio(1), Ratio(-1)])
        told = one.picture()
        answers = []
        for _ in range(2):
            answers.append((
                row_words(one), column_words(one), least(one).picture(), whole(one), finite(one), by_counts(one),
                idle(one), nothing(one, ((Ratio(1), "ab"), (Ratio(2), "b"))), plain(coordinates(one, "abab"))))
            self.assertEqual(one.picture(), told)
        assert_same(self, answers[0], answers[1])


if __name__ == "__main__":
    unittest.main()
