"""Machines of expressions, made of those of the expressions directly inside.

There is a class for each form. Its objects tell what the empty word means, what a
word means whose first letter has a row with some number, and whether it is told.
A machine reads words from their ends, so what stands last is read first.
"""

from treesays.bits import numbers_in
from treesays.errors import TooLarge
from treesays.growing import grown
from treesays.machines import MOST_STATES, shrunk
from treesays.making import lost_state

# Many of these may be alike, so that the machine itself is not too large.
MOST_MEANINGS = 6000


def woven(kind, expression, machines):
    """The machine of an expression, by those of the expressions directly inside of it."""
    form = _form_of(kind, expression, machines)
    rows = len(kind[1])
    meanings, table = grown(1, rows, form.start, form.above, MOST_MEANINGS)
    machine = shrunk(kind, 0, list(range(rows)), table, [form.is_good(meaning) for meaning in meanings])
    if len(machine[3]) > MOST_STATES:
        raise TooLarge("the machine of an expression has too many states")
    return machine


def _form_of(kind, expression, machines):
    word = expression[0]
    if word == "either":
        return Either(*machines)
    if word == "then":
        return Then(*machines)
    if word == "many":
        return Many(*machines)
    return Short(kind[1], expression)


class Short:
    """None, empty and letter. A meaning is the length of the word if it may be told, otherwise 2."""

    def __init__(self, labels, expression):
        self.letters = [label == expression[-1] for label in labels]
        self.told = {"none": None, "empty": 0, "letter": 1}[expression[0]]
        self.start = 0

    def above(self, row, child):
        """The meaning of a word with one letter more."""
        return 1 if child == 0 and self.letters[row] else 2

    def is_good(self, meaning):
        """Whether words with this meaning are told."""
        return meaning == self.told


class Either:
    """Either of two expressions. A meaning is the pair of the states of their machines."""

    def __init__(self, first, second):
        self.first = first
        self.second = second
        self.start = (0, 0)

    def above(self, row, child):
        """The meaning of a word with one letter more."""
        return self.first[2][row][child[0]], self.second[2][row][child[1]]

    def is_good(self, meaning):
        """Whether words with this meaning are told."""
        return self.first[3][meaning[0]] or self.second[3][meaning[1]]


class Many:
    """Any number of words of an expression.

    A meaning is a pair: the states of its machine for all beginnings of the word
    that leave such words behind them, and whether the whole word is such words.
    """

    def __init__(self, machine):
        self.runs = Runs(machine)
        self.start = (self.runs.with_new(0), True)

    def above(self, row, child):
        """The meaning of a word with one letter more."""
        states = self.runs.above(row, child[0])
        if self.runs.is_good(states):
            return self.runs.with_new(states), True
        return states, False

    def is_good(self, meaning):
        """Whether words with this meaning are told."""
        return meaning[1]


class Then:
    """One expression and then another one.

    A meaning is a pair: the state of the machine of the second one, and the
    states of that of the first one for all beginnings of the word that leave
    what the second one tells behind them.
    """

    def __init__(self, first, second):
        self.runs = Runs(first)
        self.second = second
        self.start = (0, self.runs.with_new(0) if second[3][0] else 0)

    def above(self, row, child):
        """The meaning of a word with one letter more."""
        state = self.second[2][row][child[0]]
        states = self.runs.above(row, child[1])
        return state, self.runs.with_new(states) if self.second[3][state] else states

    def is_good(self, meaning):
        """Whether words with this meaning are told."""
        return self.runs.is_good(meaning[1])


class Runs:
    """Sets of states of one machine, for several beginnings of a word; those above which nothing is
    accepted are left out."""

    def __init__(self, machine):
        self.table = machine[2]
        self.good = machine[3]
        self.lost = lost_state(machine)

    def with_new(self, states):
        """A set with the state of the empty beginning."""
        return states if self.lost == 0 else states | 1

    def above(self, row, states):
        """The set if all beginnings are one letter longer."""
        goals = 0
        for state in numbers_in(states):
            if self.table[row][state] != self.lost:
                goals |= 1 << self.table[row][state]
        return goals

    def is_good(self, states):
        """Whether a state in a set is good."""
        return any([self.good[state] for state in numbers_in(states)])
