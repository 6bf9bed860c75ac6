"""Shapes in which a formula does not tell exactly one element for each."""

from treesays.bits import numbers_in
from treesays.growing import each_once, grown
from treesays.machines import MOST_STATES, row_pairs, shrunk
from treesays.making import lost_state
from treesays.notes import above_of

# The meaning of all shapes with several marks on the first track.
LOST = ()


def failing(machine):
    """The least machine with one track that accepts a shape with one mark if a least machine with
    two tracks accepts it with the mark on its first one and no element or several on its second one."""
    kind = machine[0]
    # For each sign with the first track alone, the rows without and with a mark on the second one.
    marks = [k % 2 for k in range(2 * len(kind[1]))]
    views, places = each_once([(zero, one, mark) for (zero, one), mark in zip(row_pairs(machine, 1), marks)])
    tally = Tally(machine, views)
    meanings, rows = grown(kind[0], len(views), (0, 0, 0, 0), above_of(tally, kind[0]), MOST_STATES)
    return shrunk(kind, 1, places, rows, [tally.is_failing(meaning) for meaning in meanings])


class Tally:
    """How many elements lead to each state, if they are marked on the second track one at a time.

    A meaning is a tuple: the state if none is marked; the states to which an
    element leads, and those to which several do, as integers with a bit for
    each; the number of marks on the first track.
    """

    def __init__(self, machine, views):
        self.good = machine[3]
        self.lost = lost_state(machine)
        self.views = views

    def above_child(self, view, child):
        """The meaning above the one of the child, in words."""
        zero, one, mark = self.views[view]
        if child == LOST:
            return LOST
        goals = [zero[state] for state in _runs(child)] + [one[child[0]]]
        return self._meaning(zero[child[0]], goals, child[3] + mark)

    def above_children(self, view, first, second):
        """The meaning above those of both children, in trees."""
        zero, one, mark = self.views[view]
        if first == LOST or second == LOST:
            return LOST
        goals = [zero[state][second[0]] for state in _runs(first)]
        goals.extend([zero[first[0]][state] for state in _runs(second)])
        goals.append(one[first[0]][second[0]])
        return self._meaning(zero[first[0]][second[0]], goals, first[3] + second[3] + mark)

    def _meaning(self, state, goals, marks):
        """The meaning with a state for each element, and so many marks on the first track."""
        if marks > 1:
            return LOST
        once = twice = 0
        for goal in goals:
            # What is never accepted need not be known.
            if goal != self.lost:
                twice |= once & (1 << goal)
                once |= 1 << goal
        return state, once, twice, marks

    def is_failing(self, meaning):
        """Whether the first track has one mark, and not exactly one element is accepted."""
        if meaning == LOST or meaning[3] != 1:
            return False
        return len([state for state in _runs(meaning) if self.good[state]]) != 1


def _runs(meaning):
    """The states to which elements lead; those to which several do stand there twice."""
    return numbers_in(meaning[1]) + numbers_in(meaning[2])
