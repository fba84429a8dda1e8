"""Points 0.5, 10.1 and 10.2, and the interface under wordworth/house.py."""

import unittest
from fractions import Fraction
from random import Random

from helpers import (
    assert_row, carried, machine, none, plain, ratio, row, some_machine, some_words, table, value_of, widened,
)
from wordworth.alike import compare
from wordworth.errors import BadDeed, BadMachine, BadPaper, BadWord, Taken, Unknown
from wordworth.house import House
from wordworth.machines import Machine
from wordworth.mixing import constant, plus, scaled, single
from wordworth.ratios import Ratio


def counter():
    """Over a and b: the count of the letters b."""
    return machine(2, [1, 0], [([1, 0], [0, 1]), ([1, 1], [0, 1])], [0, 1])


def paper_of(one, other):
    kind, paper = compare(one, other)
    assert kind == "same"
    return paper


def shown(house, totals=4):
    """All that a house tells."""
    machines = [(name, house.machine(name).picture()) for name in house.names()]
    streams = [(stream, name, house.word(stream), house.number(stream).text()) for stream, name in house.streams()]
    sums = [[house.total(name, length).text() for length in range(totals)] for name in house.names()]
    return machines, streams, sums


class HouseTest(unittest.TestCase):
    def furnished(self):
        house = House(2)
        house.put("count", counter())
        house.put("one", constant(2, Ratio(1)))
        house.put("Some", some_machine("house", 2, 3))
        house.begin("s", "count")
        house.begin("count", "count")
        house.begin("t", "one")
        house.feed("s", "abb")
        house.feed("t", "ba")
        return house

    def refused(self, house, error, what, call, *arguments):
        before = shown(house)
        with self.assertRaises(error) as context:
            call(*arguments)
        self.assertIs(type(context.exception), error)
        self.assertEqual(context.exception.what, what)
        self.assertEqual(shown(house), before)

    def test_put_names_and_machine(self):
        for letters in range(1, 5):
            house = House(letters)
            self.assertEqual(house.names(), [])
            one = some_machine(letters, letters, 2)
            self.assertIsNone(house.put("x", one))
            self.assertEqual(house.names(), ["x"])
            self.assertIs(type(house.machine("x")), Machine)
            self.assertEqual(house.machine("x").picture(), one.picture())
            house.put("none", none(letters))
            self.assertEqual(house.machine("none").picture(), none(letters).picture())

    def test_names_ascend_as_python_compares_strings(self):
        house = House(1)
        names = ["b", "", "a", "B", "ab", "a b", "\u00e4", "aa", "Z" * 30, "10", "9", " "]
        for name in names:
            house.put(name, none(1))
        self.assertEqual(house.names(), sorted(names))
        self.assertIs(type(house.names()), list)
        for name in names[::-1]:
            house.begin(name, name)
        self.assertEqual(house.streams(), [(name, name) for name in sorted(names)])
        self.assertTrue(all(type(pair) is tuple for pair in house.streams()))

    def test_errors_of_put(self):
        house = self.furnished()
        self.refused(house, Taken, "count", house.put, "count", counter())
        self.refused(house, BadMachine, None, house.put, "new", none(1))
        self.refused(house, BadMachine, None, house.put, "new", some_machine(1, 3, 2))
        # Two faults at once: the name is looked at first.
        self.refused(house, Taken, "one", house.put, "one", none(4))
        # The name of a stream is free for a machine.
        house.put("s", counter())
        self.assertEqual(house.names(), ["Some", "count", "one", "s"])

    def test_unknown_machines(self):
        house = self.furnished()
        for name in ("", "Count", "count ", "coun", "s", "some"):
            self.refused(house, Unknown, name, house.machine, name)
            self.refused(house, Unknown, name, house.exchange, name, counter(), ())
            self.refused(house, Unknown, name, house.amend, name, "a", Ratio(1))
            self.refused(house, Unknown, name, house.remove, name)
            self.refused(house, Unknown, name, house.begin, "new", name)
            self.refused(house, Unknown, name, house.total, name, 3)

    def test_unknown_streams(self):
        house = self.furnished()
        for stream in ("", "S", "s ", "one", "Some"):
            self.refused(house, Unknown, stream, house.finish, stream)
            self.refused(house, Unknown, stream, house.feed, stream, "a")
            self.refused(house, Unknown, stream, house.back, stream, 0)
            self.refused(house, Unknown, stream, house.word, stream)
            self.refused(house, Unknown, stream, house.number, stream)

    def test_two_faults_at_once(self):
        house = self.furnished()
        self.refused(house, Unknown, "no", house.exchange, "no", none(3), ((Ratio(1),),))
        self.refused(house, BadMachine, None, house.exchange, "count", none(3), ((Ratio(1),),))
        self.refused(house, Unknown, "no", house.amend, "no", "xyz", Ratio(1))
        # The name of the machine is looked at first, then that of the stream.
        self.refused(house, Unknown, "no", house.begin, "s", "no")
        self.refused(house, Unknown, "no", house.feed, "no", "xyz")
        self.refused(house, Unknown, "no", house.back, "no", 1000)

    def test_begin_feed_back_and_finish(self):
        house = House(2)
        house.put("count", counter())
        self.assertIsNone(house.begin("s", "count"))
        self.assertEqual((house.word("s"), house.number("s")), ("", Ratio(0)))
        self.assertIsNone(house.feed("s", "abb"))
        self.assertEqual((house.word("s"), house.number("s")), ("abb", Ratio(2)))
        house.feed("s", "")
        house.feed("s", "b")
        self.assertEqual((house.word("s"), house.number("s")), ("abbb", Ratio(3)))
        self.assertIsNone(house.back("s", 2))
        self.assertEqual((house.word("s"), house.number("s")), ("ab", Ratio(1)))
        house.back("s", 0)
        self.assertEqual(house.word("s"), "ab")
        house.back("s", 2)
        self.assertEqual((house.word("s"), house.number("s")), ("", Ratio(0)))
        house.back("s", 0)
        house.feed("s", "ba")
        self.assertEqual(house.streams(), [("s", "count")])
        self.assertIsNone(house.finish("s"))
        self.assertEqual(house.streams(), [])
        self.refused(house, Unknown, "s", house.finish, "s")
        house.begin("s", "count")
        self.assertEqual(house.word("s"), "")

    def test_errors_of_streams(self):
        house = self.furnished()
        self.refused(house, Taken, "s", house.begin, "s", "one")
        self.refused(house, Taken, "count", house.begin, "count", "count")
        self.refused(house, BadWord, "abc", house.feed, "s", "abc")
        self.refused(house, BadWord, "A", house.feed, "s", "A")
        self.refused(house, BadWord, "a b", house.feed, "s", "a b")
        self.refused(house, BadDeed, None, house.back, "s", 4)
        self.refused(house, BadDeed, None, house.back, "count", 1)
        self.refused(house, BadDeed, None, house.back, "t", 10 ** 30)
        house.back("s", 3)
        self.refused(house, BadDeed, None, house.back, "s", 1)

    def test_a_stream_may_have_the_name_of_a_machine(self):
        house = self.furnished()
        house.begin("Some", "one")
        house.begin("one", "Some")
        house.feed("one", "ab")
        self.assertEqual(house.streams(), [
            ("Some", "one"), ("count", "count"), ("one", "Some"), ("s", "count"), ("t", "one")])
        self.assertEqual(house.number("one"), house.machine("Some").number("ab"))
        self.assertEqual(house.number("Some"), Ratio(1))
        house.finish("Some")
        house.finish("t")
        house.remove("one")
        self.assertEqual(house.names(), ["Some", "count"])
        self.assertEqual(house.word("one"), "ab")

    def test_remove(self):
        house = self.furnished()
        self.refused(house, BadDeed, None, house.remove, "count")
        house.finish("s")
        self.refused(house, BadDeed, None, house.remove, "count")
        house.finish("count")
        self.assertIsNone(house.remove("count"))
        self.assertEqual(house.names(), ["Some", "one"])
        self.refused(house, Unknown, "count", house.remove, "count")
        self.refused(house, Unknown, "count", house.machine, "count")
        house.amend("Some", "a", Ratio(7))
        house.remove("Some")
        # What was amended is gone with the machine.
        house.put("Some", counter())
        self.assertEqual(house.machine("Some").picture(), counter().picture())
        self.assertEqual(house.total("Some", 1), Ratio(1))
        house.put("count", constant(2, Ratio(5)))
        self.assertEqual(house.machine("count").picture(), constant(2, Ratio(5)).picture())

    def test_exchange(self):
        house = self.furnished()
        old = house.machine("count")
        for new in (carried(old, 1), widened(old, 2), carried(widened(old, 3), 4), counter()):
            paper = paper_of(house.machine("count"), new)
            self.assertIsNone(house.exchange("count", new, paper))
            self.assertEqual(house.machine("count").picture(), new.picture())
            self.assertEqual((house.word("s"), house.number("s")), ("abb", Ratio(2)))
            self.assertEqual(house.names(), ["Some", "count", "one"])
            house.feed("s", "b")
            self.assertEqual(house.number("s"), Ratio(3))
            house.back("s", 1)

    def test_exchanges_that_are_refused(self):
        house = self.furnished()
        old = house.machine("count")
        new = carried(old, 1)
        paper = paper_of(old, new)
        for bad in ((), paper[:-1], paper[1:], paper_of(new, old), paper + (row(1, 0, 0, 0),), (row(1, 0, 0),) + paper,
                    tuple(line[:2] + line[:2] for line in paper)):
            self.refused(house, BadPaper, None, house.exchange, "count", new, bad)
        self.refused(house, BadPaper, None, house.exchange, "count", scaled(new, Ratio(2)), paper)
        self.refused(house, BadPaper, None, house.exchange, "count", constant(2, Ratio(1)), table([1, 0, 1]))
        self.refused(house, BadMachine, None, house.exchange, "count", constant(1, Ratio(1)), paper)
        house.exchange("count", new, paper)
        # The machine that is there now is another one: it needs another paper.
        self.refused(house, BadPaper, None, house.exchange, "count", old, paper)
        house.exchange("count", old, paper_of(new, old))

    def test_amend(self):
        house = self.furnished()
        house.feed("count", "ba")
        self.assertIsNone(house.amend("count", "abb", Ratio(-1, 3)))
        self.assertEqual(house.number("s"), Ratio(-1, 3))
        self.assertEqual(house.number("count"), Ratio(1))
        for word in some_words(2, 4):
            wanted = Fraction(-1, 3) if word == "abb" else word.count("b")
            self.assertEqual(value_of(house.machine("count"), word), wanted)
        house.feed("s", "b")
        self.assertEqual(house.number("s"), Ratio(3))
        house.back("s", 1)
        self.assertEqual(house.number("s"), Ratio(-1, 3))
        house.amend("count", "", Ratio(9))
        house.begin("empty", "count")
        self.assertEqual(house.number("empty"), Ratio(9))

    def test_errors_of_amend(self):
        house = self.furnished()
        for word in ("c", "abC", " ", "ab\n"):
            self.refused(house, BadWord, word, house.amend, "count", word, Ratio(1))
        self.assertEqual(house.machine("count").picture(), counter().picture())

    def test_amended_again_and_again(self):
        for seed in range(6):
            chance = Random(seed)
            letters = 1 + seed % 4
            one = some_machine(f"amend {seed}", letters, seed % 4)
            house = House(letters)
            house.put("m", one)
            house.begin("s", "m")
            values = {word: value_of(one, word) for word in some_words(letters, 3)}
            size = one.size
            for turn in range(12):
                word = chance.choice([word for word in values if len(word) <= 3])
                number = Fraction(chance.randint(-3, 3), chance.randint(1, 3)) if turn % 3 else values[word]
                house.amend("m", word, ratio(number))
                values[word] = number
                found = house.machine("m")
                self.assertLessEqual(found.size, size + 1 + len(word))
                size = found.size
                self.assertEqual({word: value_of(found, word) for word in values}, values)
                self.assertEqual(plain([house.total("m", 2)]), [sum(
                    (number for word, number in values.items() if len(word) == 2), Fraction(0))])
            for word, number in values.items():
                house.back("s", len(house.word("s")))
                house.feed("s", word)
                self.assertEqual(house.number("s"), ratio(number))

    def test_the_most_states_of_an_amended_machine(self):
        house = House(4)
        one = some_machine("twenty", 4, 20, zeros=90)
        house.put("m", one)
        sizes = [20]
        for word in ("abcdabcdabcd", "abcdabcdabcc", "dcba", "", "abcd", "dddddddddddd", "dcba"):
            house.amend("m", word, Ratio(1, 7))
            sizes.append(house.machine("m").size)
            self.assertLessEqual(sizes[-1], sizes[-2] + 1 + len(word))
        for word in ("abcdabcdabcd", "abcdabcdabcc", "dcba", "", "abcd", "dddddddddddd"):
            self.assertEqual(house.machine("m").number(word), Ratio(1, 7))
        self.assertEqual(house.machine("m").number("aabb"), one.number("aabb"))

    def test_an_amended_machine_is_exchanged(self):
        house = House(2)
        house.put("m", counter())
        house.begin("s", "m")
        house.feed("s", "ab")
        house.amend("m", "ab", Ratio(10))
        amended = house.machine("m")
        # The paper is for the machine as it is at the moment, not for the one that was put.
        self.refused(house, BadPaper, None, house.exchange, "m", counter(), paper_of(counter(), counter()))
        new = carried(plus(counter(), single(2, "ab", Ratio(9))), 5)
        house.exchange("m", new, paper_of(amended, new))
        self.assertEqual(house.machine("m").picture(), new.picture())
        self.assertEqual((house.word("s"), house.number("s")), ("ab", Ratio(10)))
        house.amend("m", "ab", Ratio(1))
        self.assertEqual(house.number("s"), Ratio(1))
        # The numbers are those of the counter again.
        house.exchange("m", counter(), paper_of(house.machine("m"), counter()))
        self.assertEqual(house.machine("m").picture(), counter().picture())
        self.assertEqual(house.number("s"), Ratio(1))

    def test_a_machine_under_two_names(self):
        one = counter()
        house = House(2)
        house.put("x", one)
        house.put("y", one)
        house.begin("x", "x")
        house.begin("y", "y")
        for stream in ("x", "y"):
            house.feed(stream, "bb")
        house.amend("x", "bb", Ratio(0))
        self.assertEqual((house.number("x"), house.number("y")), (Ratio(0), Ratio(2)))
        self.assertEqual((house.total("x", 2), house.total("y", 2)), (Ratio(2), Ratio(4)))
        self.assertEqual(house.machine("y").picture(), counter().picture())
        self.assertEqual(one.picture(), counter().picture())
        house.finish("x")
        house.remove("x")
        self.assertEqual(house.machine("y").picture(), counter().picture())

    def test_total(self):
        house = self.furnished()
        for name in house.names():
            one = house.machine(name)
            for length in range(5):
                wanted = sum((value_of(one, word) for word in some_words(2, length) if len(word) == length), Fraction(0))
                found = house.total(name, length)
                assert_row(self, (found,))
                self.assertEqual(found, ratio(wanted))
        self.assertEqual(house.total("one", 60), Ratio(2 ** 60))
        self.assertEqual(house.total("count", 60), Ratio(60 * 2 ** 59))
        self.assertEqual(house.total("count", 0), Ratio(0))
        house.amend("one", "", Ratio(1, 3))
        house.amend("one", "ab", Ratio(11))
        self.assertEqual([house.total("one", length) for length in range(4)],
                         [Ratio(1, 3), Ratio(2), Ratio(14), Ratio(8)])
        four = House(4)
        four.put("m", constant(4, Ratio(1, 2)))
        self.assertEqual(four.total("m", 60), Ratio(2 ** 119))
        four.put("none", none(4))
        self.assertEqual((four.total("none", 0), four.total("none", 60)), (Ratio(0), Ratio(0)))

    def test_lists_that_are_returned_may_be_changed(self):
        house = self.furnished()
        before = shown(house)
        names, streams = house.names(), house.streams()
        names.append("no")
        names.remove("one")
        streams.clear()
        self.assertEqual(shown(house), before)
        self.assertEqual(house.streams(), [("count", "count"), ("s", "count"), ("t", "one")])

    def test_what_is_passed_may_be_changed_afterwards(self):
        start, steps, end = [Ratio(1)], [[[Ratio(2)]]], [Ratio(3)]
        one = Machine(1, start, steps, end)
        house = House(1)
        house.put("m", one)
        start[0] = steps[0][0][0] = end[0] = Ratio(0)
        self.assertEqual(house.total("m", 1), Ratio(6))
        told = one.picture()
        house.amend("m", "a", Ratio(0))
        house.exchange("m", house.machine("m"), paper_of(house.machine("m"), house.machine("m")))
        self.assertEqual(one.picture(), told)

    def test_two_houses_side_by_side(self):
        one, other = House(2), House(2)
        shared = counter()
        one.put("m", shared)
        other.put("m", shared)
        one.begin("s", "m")
        one.feed("s", "bb")
        one.amend("m", "bb", Ratio(5))
        self.assertEqual(other.streams(), [])
        self.assertEqual(other.machine("m").picture(), counter().picture())
        other.begin("s", "m")
        other.feed("s", "bb")
        self.assertEqual((one.number("s"), other.number("s")), (Ratio(5), Ratio(2)))
        other.finish("s")
        other.remove("m")
        self.assertEqual(one.number("s"), Ratio(5))
        self.assertEqual(one.names(), ["m"])

    def test_asking_again_gives_the_same(self):
        house = self.furnished()
        house.amend("count", "abb", Ratio(1, 2))
        before = shown(house)
        for _ in range(3):
            self.assertEqual(shown(house), before)

    def test_a_stream_of_400_letters(self):
        one = some_machine("400", 2, 20, zeros=50)
        house = House(2)
        house.put("m", one)
        house.begin("s", "m")
        for _ in range(4):
            house.feed("s", "ab" * 50)
        self.assertEqual(house.word("s"), "ab" * 200)
        self.assertEqual(house.number("s"), one.number("ab" * 200))
        house.back("s", 399)
        self.assertEqual(house.number("s"), one.number("a"))

    def test_long_numbers(self):
        long = Ratio(10 ** 1999 + 7, 10 ** 1999 + 9)
        house = House(2)
        house.put("m", constant(2, long))
        house.begin("s", "m")
        house.amend("m", "", -long)
        self.assertEqual(house.number("s"), -long)
        house.feed("s", "a")
        self.assertEqual(house.number("s"), long)
        self.assertEqual(house.machine("m").number(""), -long)


if __name__ == "__main__":
    unittest.main()
