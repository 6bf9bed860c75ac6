"""How many models of each size a sentence has, and the recurrences of these numbers."""

from treesays.errors import InvalidKind
from treesays.fitting import is_kept, least_recurrence
from treesays.formulas import check_sentence
from treesays.growing import each_once, entry
from treesays.making import machine_of
from treesays.shapes import check_kind


def counts(kind, sentence, size):
    """The list of the numbers of models of a sentence for all sizes from 0 to `size`."""
    check_sentence(kind, sentence)
    return _accepted(machine_of(kind, sentence), size)


def recurrence(kind, sentence):
    """The least recurrence that the counts of a sentence about words keep."""
    check_kind(kind)
    if kind[0] != 1:
        raise InvalidKind("only counts of words keep recurrences")
    check_sentence(kind, sentence)
    machine = machine_of(kind, sentence)
    # There is a recurrence with as many numbers as states, or fewer.
    return least_recurrence(_accepted(machine, 2 * len(machine[3]) - 1))


def keeps(machine, numbers):
    """Whether the counts of the marked words that a machine accepts keep a recurrence."""
    if machine[0][0] != 1:
        raise InvalidKind("only counts of words keep recurrences")
    # If it is kept at as many places as there are states, it is kept at all.
    return is_kept(_accepted(machine, len(machine[3]) + len(numbers) - 1), numbers)


def _accepted(machine, size):
    """How many marked shapes a machine accepts, for all sizes from 0 to `size`."""
    kind, _, table, good = machine
    rows, places = each_once(table)
    repeated = [(row, places.count(place)) for place, row in enumerate(rows)]
    # For each size a dict with the number of marked shapes for each state.
    levels = [{0: 1}]
    while len(levels) <= size:
        below = _children(kind[0], levels)
        levels.append(_one_larger(repeated, below))
    return [sum([level[state] for state in level if good[state]]) for level in levels]


def _children(ways, levels):
    """For each tuple of states of children that have, together, the size of the last level, how often it is there."""
    if ways == 1:
        return {(state,): many for state, many in levels[-1].items()}
    below = {}
    for firsts, seconds in zip(levels, levels[::-1]):
        for first, many in firsts.items():
            for second, more in seconds.items():
                below[first, second] = below.get((first, second), 0) + many * more
    return below


def _one_larger(repeated, below):
    """How many marked shapes have each state, if an element stands above these children.

    `repeated` has the different rows, and how many signs have each.
    """
    level = {}
    for row, signs in repeated:
        for states, many in below.items():
            state = entry(row, states)
            level[state] = level.get(state, 0) + signs * many
    return level
