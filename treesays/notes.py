"""Notes: what a state of the raw machine of a formula stands for (point 15).

There is a class for each form of notes. Its objects have `rows`, in which signs
that do the same are one, `places` with the place among the rows for each sign,
and `start`, what the empty shape means. A meaning is what a note tells, in a form
that is found faster: `note_of` and `meaning_of` lead from one to the other.
"""

from treesays.atoms import atom_machine
from treesays.choices import Choices
from treesays.formulas import free_variables, is_element_name
from treesays.growing import each_once
from treesays.machines import row_pairs, signs
from treesays.parts import inner
from treesays.shapes import is_whole


def notes_for(kind, formula, machines):
    """The notes of a core formula, no atom, for the machines of the formulas directly inside."""
    if formula[0] not in ("some", "someset"):
        return Counted(kind, formula, machines)
    names = free_variables(formula[2])
    if formula[1] in names:
        return Chosen(kind, names.index(formula[1]), machines[0])
    return Single(formula[0], machines[0])


def above_of(notes, ways):
    """The method that tells the meaning above children, for words or for trees."""
    if ways == 1:
        return notes.above_child
    return notes.above_children


def _is_among(value, count):
    """Whether a value is an integer from 0 on and below this count."""
    return is_whole(value) and 0 <= value < count


class Counted:
    """Notes of not, and, or: a state of each machine, and how often the element variables are marked.

    A meaning is a tuple (state of M, state of N, once, twice); these two are
    integers with a bit for each element variable that is marked, or marked again.
    """

    def __init__(self, kind, formula, machines):
        names = free_variables(formula)
        self.word = formula[0]
        self.many = len(machines)
        self.singles = [track for track, name in enumerate(names) if is_element_name(name)]
        self.whole = (1 << len(self.singles)) - 1
        # What is denied stands beside true here, so that there is a second machine always.
        formulas = (*inner(formula), ("true",))[:2]
        both = [*machines, atom_machine(kind, ("true",))][:2]
        self.goods = [machine[3] for machine in both]
        first_rows, first_places = _rows_read(kind, names, formulas[0], both[0])
        second_rows, second_places = _rows_read(kind, names, formulas[1], both[1])
        bits = [self._bits(marks) for label, marks in signs(kind, len(names))]
        each, self.places = each_once(list(zip(first_places, second_places, bits)))
        self.rows = [(first_rows[one], second_rows[other], some) for one, other, some in each]
        self.start = (0, 0, 0, 0)

    def _bits(self, marks):
        """The element variables that are marked, as bits."""
        return sum([marks[track] << place for place, track in enumerate(self.singles)])

    def above_child(self, row, child):
        """The meaning above the one of the child, in words."""
        one, other, bits = self.rows[row]
        state, other_state, once, twice = child
        return one[state], other[other_state], once | bits, twice | once & bits

    def above_children(self, row, first, second):
        """The meaning above those of both children, in trees."""
        one, other, bits = self.rows[row]
        once = first[2] | second[2]
        twice = first[3] | second[3] | first[2] & second[2] | once & bits
        return one[first[0]][second[0]], other[first[1]][second[1]], once | bits, twice

    def is_good(self, meaning):
        """Whether a state with this meaning is good."""
        state, other_state, once, twice = meaning
        if once != self.whole or twice:
            return False
        truth, other_truth = self.goods[0][state], self.goods[1][other_state]
        if self.word == "not":
            return not truth
        if self.word == "and":
            return truth and other_truth
        return truth or other_truth

    def note_of(self, meaning):
        """The note with this meaning."""
        once, twice = meaning[2:]
        counts = [((once >> place) & 1) + ((twice >> place) & 1) for place in range(len(self.singles))]
        return (*meaning[:self.many], tuple(counts))

    def meaning_of(self, note):
        """The meaning of a note, or None if the value has not the form of one."""
        if not isinstance(note, tuple) or len(note) != self.many + 1:
            return None
        *states, counts = note
        if not all([_is_among(state, len(good)) for state, good in zip(states, self.goods)]):
            return None
        if not isinstance(counts, tuple) or len(counts) != len(self.singles):
            return None
        if not all([_is_among(count, 3) for count in counts]):
            return None
        other_state = states[1] if self.many == 2 else 0
        once = sum([1 << place for place, count in enumerate(counts) if count > 0])
        twice = sum([1 << place for place, count in enumerate(counts) if count > 1])
        return states[0], other_state, once, twice


def _rows_read(kind, names, formula, machine):
    """The different rows of the machine of a formula directly inside and, for each sign over the
    tracks of these variables, the place of the one that it reads there."""
    rows, places = each_once(machine[2])
    own_names = free_variables(formula)
    own = {sign: place for sign, place in zip(signs(kind, len(own_names)), places)}
    tracks = [names.index(name) for name in own_names]
    read = [own[(label, tuple([marks[track] for track in tracks]))] for label, marks in signs(kind, len(names))]
    return rows, read


class Chosen(Choices):
    """Notes of some and someset whose variable is free inside: the states with any marks for it.

    A meaning is the set of these states, written as Choices writes it.
    """

    def __init__(self, kind, track, machine):
        self.rows, self.places = each_once(row_pairs(machine, track))
        super().__init__(kind[0], self.rows, len(machine[3]))
        self.good = machine[3]
        # The bit 0 alone: the empty shape has the state 0, whatever the marks.
        self.start = 1

    def is_good(self, meaning):
        """Whether a state with this meaning is good."""
        return any([self.good[state] for state in self.states(meaning)])

    def note_of(self, meaning):
        """The note with this meaning."""
        return tuple(self.states(meaning))

    def meaning_of(self, note):
        """The meaning of a note, or None if the value has not the form of one."""
        if not isinstance(note, tuple) or not note:
            return None
        if not all([_is_among(state, self.count) for state in note]):
            return None
        if not all([one < other for one, other in zip(note, note[1:])]):
            return None
        return sum([1 << state for state in note])


class Single:
    """Notes of quantifiers whose variable is not free inside: a state, and for some whether there are elements.

    A meaning is a tuple of both; for someset the second part is always 0.
    """

    def __init__(self, word, machine):
        self.parts = 2 if word == "some" else 1
        self.good = machine[3]
        self.rows, self.places = each_once(machine[2])
        self.start = (0, 0)

    def above_child(self, row, child):
        """The meaning above the one of the child, in words."""
        return self.rows[row][child[0]], self.parts - 1

    def above_children(self, row, first, second):
        """The meaning above those of both children, in trees."""
        return self.rows[row][first[0]][second[0]], self.parts - 1

    def is_good(self, meaning):
        """Whether a state with this meaning is good."""
        return self.good[meaning[0]] and meaning[1] == self.parts - 1

    def note_of(self, meaning):
        """The note with this meaning."""
        return meaning[:self.parts]

    def meaning_of(self, note):
        """The meaning of a note, or None if the value has not the form of one."""
        if not isinstance(note, tuple) or len(note) != self.parts:
            return None
        if not all([_is_among(value, most) for value, most in zip(note, (len(self.good), 2))]):
            return None
        return note if self.parts == 2 else (note[0], 0)
