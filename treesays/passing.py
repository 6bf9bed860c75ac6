"""Expressions for the words that lead a machine from state to state.

A passage is an expression for a pair (from, to). A machine reads words from
their ends, so what leads from a state stands behind what leads on.
"""

from treesays.parts import all_parts

NONE = ("none",)
EMPTY = ("empty",)
# Ahead of the first state, and behind the good ones.
START = "start"
END = "end"


def passed(machine):
    """An expression for the words that lead a machine for words from the state 0 to a good one."""
    passages = _steps(machine)
    left = list(range(len(machine[3])))
    while left:
        state = min(left, key=lambda one: _cost(passages, one))
        passages = _without(passages, state)
        left.remove(state)
    return passages.get((START, END), NONE)


def _steps(machine):
    """The passages of single letters, and those from the start and to the end."""
    (_, labels), _, table, good = machine
    passages = {(START, 0): EMPTY}
    for label, row in zip(labels, table):
        for state, goal in enumerate(row):
            passages[state, goal] = _either(passages.get((state, goal), NONE), ("letter", label))
    for state, truth in enumerate(good):
        if truth:
            passages[state, END] = EMPTY
    return passages


def _without(passages, state):
    """The passages between all other states, also by the way of this one."""
    found = {pair: told for pair, told in passages.items() if state not in pair}
    around = _many(passages.get((state, state), NONE))
    for (source, to), first in passages.items():
        for (start, goal), last in passages.items():
            if to == start == state and source != state and goal != state:
                told = _then(last, _then(around, first))
                found[source, goal] = _either(found.get((source, goal), NONE), told)
    return found


def _cost(passages, state):
    """How many parts the passages by the way of a state have."""
    into = [told for (source, goal), told in passages.items() if goal == state != source]
    out = [told for (source, goal), told in passages.items() if source == state != goal]
    around = passages.get((state, state), NONE)
    size = len(out) * sum([len(all_parts(told)) for told in into])
    size += len(into) * sum([len(all_parts(told)) for told in out])
    return size + len(into) * len(out) * len(all_parts(around))


# No part of what is told is without use: none and empty are left out where
# they can be.

def _either(first, second):
    if NONE in (first, second):
        return second if first == NONE else first
    return ("either", first, second)


def _then(first, second):
    if NONE in (first, second):
        return NONE
    if EMPTY in (first, second):
        return second if first == EMPTY else first
    return ("then", first, second)


def _many(told):
    return EMPTY if told in (NONE, EMPTY) else ("many", told)
