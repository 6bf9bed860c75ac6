"""Which elements make a machine accept, if they alone are marked on its last track."""

from treesays.growing import entry
from treesays.machines import signs
from treesays.shapes import folded


class Seeker:
    """What a machine tells of elements and of what stands around them.

    The signs are those without the last track. The *welcome* states of a part
    are those with which the machine accepts the whole, if all that is around
    the part stays as it is. They are written as an integer, with the bit n for
    the state n.
    """

    def __init__(self, machine):
        kind, tracks, table, good = machine
        rows = {sign: row for sign, row in zip(signs(kind, tracks), table)}
        around = signs(kind, tracks - 1)
        self.plain_rows = {(label, marks): rows[(label, marks + (0,))] for label, marks in around}
        self.marked_rows = {(label, marks): rows[(label, marks + (1,))] for label, marks in around}
        self.count = len(good)
        self.start = sum([1 << state for state, truth in enumerate(good) if truth])
        self.known = {}

    def state_above(self, sign, states):
        """The state of an element that is not marked."""
        return entry(self.plain_rows[sign], states)

    def is_found(self, sign, states, welcome):
        """Whether the machine accepts if this element is marked."""
        return (welcome >> entry(self.marked_rows[sign], states)) & 1 == 1

    def welcome_below(self, sign, states, welcome, k):
        """The welcome states of the child with the number k of an element that is not marked."""
        before, behind = states[:k], states[k + 1:]
        key = (sign, before, behind, welcome)
        if key not in self.known:
            row = self.plain_rows[sign]
            goals = [entry(row, (*before, state, *behind)) for state in range(self.count)]
            self.known[key] = sum([1 << state for state, goal in enumerate(goals) if (welcome >> goal) & 1])
        return self.known[key]


def found_paths(machine, marked):
    """The ascending list of the paths of the elements that make a machine accept if they
    alone are marked on its last track; `marked` bears the marks of the other tracks."""
    seeker = Seeker(machine)
    # Each part becomes a tuple of its state, its sign and the list of its children.
    top = folded(marked, (0, None, []), lambda sign, below: _part_above(seeker, sign, below))
    waiting = [((), top, seeker.start)]
    found = []
    while waiting:
        path, (_, sign, below), welcome = waiting.pop()
        states = tuple([child[0] for child in below])
        # Where nothing is welcome, no element is found.
        if sign is not None and welcome:
            if seeker.is_found(sign, states, welcome):
                found.append(path)
            for k in reversed(range(len(below))):
                waiting.append((path + (k,), below[k], seeker.welcome_below(sign, states, welcome, k)))
    return found


def _part_above(seeker, sign, below):
    return seeker.state_above(sign, tuple([child[0] for child in below])), sign, below
