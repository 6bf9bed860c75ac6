"""Sets of states that belong to a shape with any marks on one track.

A set of states is written as an integer here, with the bit n for the state n,
so that sets are joined and compared at once.
"""


class Choices:
    """The sets above sets of states, if each element may take one of two rows of a table."""

    def __init__(self, ways, pairs, count):
        self.count = count
        if ways == 1:
            self.goals = [_either(zero, one) for zero, one in pairs]
        else:
            self.goals = [[_either(low, high) for low, high in zip(zero, one)] for zero, one in pairs]
        self.known_states = {}
        self.known_lines = {}

    def states(self, chosen):
        """The ascending list of the states in a set."""
        if chosen not in self.known_states:
            self.known_states[chosen] = [state for state in range(self.count) if (chosen >> state) & 1]
        return self.known_states[chosen]

    def above_child(self, row, child):
        """The set above a set, in words."""
        return _union(self.goals[row], self.states(child))

    def above_children(self, row, first, second):
        """The set above two sets, in trees."""
        return _union(self._line(row, second), self.states(first))

    def _line(self, row, second):
        """For each state of the first child the set above it and a set for the second child.

        It is kept, because the same second child comes with many first ones.
        """
        key = (row, second)
        if key not in self.known_lines:
            states = self.states(second)
            self.known_lines[key] = [_union(sets, states) for sets in self.goals[row]]
        return self.known_lines[key]


def _either(zero, one):
    """For each place the set of the two states that stand there."""
    return [(1 << low) | (1 << high) for low, high in zip(zero, one)]


def _union(sets, places):
    joint = 0
    for place in places:
        joint |= sets[place]
    return joint
