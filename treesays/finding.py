"""The least shape that a machine accepts."""

from treesays.errors import TooLarge
from treesays.growing import each_once, entry
from treesays.machines import signs
from treesays.shapes import write_shape

MOST_ELEMENTS = 400


def least_accepted(machine):
    """The least shape that a least machine accepts, with some marks if it has tracks, or None if there is none.

    Raises TooLarge if it has more than 400 elements.
    """
    good = machine[3]
    if not any(good):
        return None
    search = Search(machine)
    while len(search.levels) <= MOST_ELEMENTS + 1:
        found = [search.shapes[state] for state in search.levels[-1] if good[state]]
        if found:
            return min(found, key=write_shape)
        search.widen()
    raise TooLarge("the least shape has too many elements")


class Search:
    """The least shape for each state of a machine, for one size after the other.

    A part of the least shape for a state is the least shape for its own state:
    a less one in its place would make the whole less.
    """

    def __init__(self, machine):
        self.kind, tracks, table, _ = machine
        # Signs that differ in their marks alone stand for the same label.
        self.rows = each_once([(sign[0], row) for sign, row in zip(signs(self.kind, tracks), table)])[0]
        self.shapes = {0: ()}
        self.texts = {0: write_shape(())}
        # For each size, from 0 on, the states whose least shapes have it.
        self.levels = [[0]]

    def widen(self):
        """Find the states whose least shapes have the next size."""
        # Shapes of one size are ordered as the label with the texts of the
        # children is: no text begins with another one.
        best = {}
        for children in self._children():
            texts = [self.texts[child] for child in children]
            for label, row in self.rows:
                state = entry(row, children)
                if state not in self.texts and (state not in best or (label, texts) < best[state][:2]):
                    best[state] = (label, texts, children)
        for state, (label, _, children) in best.items():
            self.shapes[state] = (label, *[self.shapes[child] for child in children])
            self.texts[state] = write_shape(self.shapes[state])
        self.levels.append(list(best))

    def _children(self):
        """The lists of states of children whose least shapes have, together, one element less than the next size."""
        if self.kind[0] == 1:
            return [[child] for child in self.levels[-1]]
        return [
            [first, second]
            for firsts, seconds in zip(self.levels, self.levels[::-1])
            for first in firsts
            for second in seconds
        ]
