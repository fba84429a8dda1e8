"""A house of machines, and of streams of letters that run through them."""

from wordworth.alike import is_same_paper
from wordworth.errors import BadDeed, BadMachine, BadPaper, Taken, Unknown
from wordworth.machines import Machine
from wordworth.mixing import plus, totals
from wordworth.ratios import Ratio
from wordworth.words import alphabet, check_word


class House:
    """Machines with names, and streams with names, each of them for one machine."""

    def __init__(self, letters):
        self._letters = letters
        self._machines = {}
        # Under the name of each machine: what is added to the numbers of amended words.
        self._extras = {}
        # Under the name of each stream: the name of its machine, and its word.
        self._hosts = {}
        self._fed = {}

    def put(self, name, machine):
        """Puts a machine in the house."""
        if name in self._machines:
            raise Taken(name)
        self._check_letters(machine)
        self._take(name, machine)

    def names(self):
        """The list of the names of the machines, ascending."""
        return sorted(self._machines)

    def machine(self, name):
        """The machine, as it is at the moment."""
        _check_known(self._machines, name)
        extras = self._extras[name]
        if not extras:
            return self._machines[name]
        return plus(self._machines[name], _words_machine(self._letters, extras))

    def exchange(self, name, machine, paper):
        """Exchanges the machine for one that is alike, as the paper shows."""
        _check_known(self._machines, name)
        self._check_letters(machine)
        if not is_same_paper(self.machine(name), machine, paper):
            raise BadPaper()
        self._take(name, machine)

    def amend(self, name, word, number):
        """Gives one word this number by the machine; all others keep theirs."""
        _check_known(self._machines, name)
        check_word(self._letters, word)
        extra = number - self._machines[name].number(word)
        if extra:
            self._extras[name][word] = extra
        else:
            self._extras[name].pop(word, None)

    def remove(self, name):
        """Takes the machine out of the house."""
        _check_known(self._machines, name)
        if name in list(self._hosts.values()):
            raise BadDeed()
        del self._machines[name]
        del self._extras[name]

    def begin(self, stream, name):
        """Begins a stream for the machine, with the empty word."""
        _check_known(self._machines, name)
        if stream in self._hosts:
            raise Taken(stream)
        self._hosts[stream] = name
        self._fed[stream] = ""

    def finish(self, stream):
        """Ends the stream."""
        _check_known(self._hosts, stream)
        del self._hosts[stream]
        del self._fed[stream]

    def feed(self, stream, word):
        """Adds the letters of the word to that of the stream."""
        _check_known(self._hosts, stream)
        check_word(self._letters, word)
        self._fed[stream] = self._fed[stream] + word

    def back(self, stream, count):
        """Takes so many letters away from the end of the word of the stream."""
        _check_known(self._hosts, stream)
        left = len(self._fed[stream]) - count
        if left < 0:
            raise BadDeed()
        self._fed[stream] = self._fed[stream][:left]

    def word(self, stream):
        """The word of the stream."""
        _check_known(self._hosts, stream)
        return self._fed[stream]

    def number(self, stream):
        """The number of the word of the stream, by its machine as it is at the moment."""
        word = self.word(stream)
        name = self._hosts[stream]
        return self._machines[name].number(word) + self._extras[name].get(word, Ratio(0))

    def streams(self):
        """The list of the pairs of each stream and the name of its machine, ascending by stream."""
        return [(stream, self._hosts[stream]) for stream in sorted(self._hosts)]

    def total(self, name, length):
        """The sum of the numbers of all words of this length."""
        _check_known(self._machines, name)
        total = totals(self._machines[name]).number("a" * length)
        for word, extra in self._extras[name].items():
            if len(word) == length:
                total = total + extra
        return total

    def _check_letters(self, machine):
        if machine.letters != self._letters:
            raise BadMachine()

    def _take(self, name, machine):
        """Keeps the machine under the name, as one that is not amended."""
        self._machines[name] = machine
        self._extras[name] = {}


def _check_known(kept, name):
    """Raises Unknown(name) if the name is not among those that are kept."""
    if name not in kept:
        raise Unknown(name)


def _words_machine(letters, numbers):
    """The machine that gives the words of the dict their numbers and all others 0.

    It has one state for each beginning of a word, so a further word brings at
    most as many as it has letters, and one more if it is the first one.
    """
    places = {}
    for word in numbers:
        for at in range(len(word) + 1):
            places.setdefault(word[:at], len(places))
    one, nothing = Ratio(1), Ratio(0)
    start = [one if at == 0 else nothing for at in range(len(places))]
    steps = []
    for letter in alphabet(letters):
        targets = [places.get(beginning + letter) for beginning in places]
        steps.append([[one if at == target else nothing for at in range(len(places))] for target in targets])
    return Machine(letters, start, steps, [numbers.get(beginning, nothing) for beginning in places])
