"""Sentences that say how a machine reads a shape."""

from treesays.building import all_of, any_of
from treesays.errors import TooLarge
from treesays.growing import each_once

MOST_STATES_READ = 4
# The sets in which an element is tell its state, as the bits of the number.
SETS = ("X", "Y")


def sentence_of(machine):
    """A sentence with this machine, a least one without tracks."""
    (ways, labels), _, table, good = machine
    if len(good) > MOST_STATES_READ:
        raise TooLarge("the machine has too many states")
    names = SETS[:(len(good) - 1).bit_length()]
    states = range(len(good))
    own = [_has_state("x", state, names) for state in states]
    below = [[_child_has_state(k, state, names) for state in states] for k in range(ways)]
    rules = [("or", ("not", ("label", label, "x")), _fits(row, own, below)) for label, row in zip(labels, table)]
    welcome = any_of([own[state] for state in states if good[state]])
    # There is no top in the empty shape, whose state is 0.
    if good[0]:
        told = ("all", "x", ("or", ("not", ("top", "x")), welcome))
    else:
        told = ("some", "x", ("and", ("top", "x"), welcome))
    sentence = ("and", ("all", "x", all_of(rules)), told)
    for name in names:
        sentence = ("someset", name, sentence)
    return sentence


def _has_state(variable, state, names):
    """That an element has a state."""
    atoms = [("in", variable, name) for name in names]
    return all_of([atom if (state >> k) & 1 else ("not", atom) for k, atom in enumerate(atoms)])


def _child_has_state(k, state, names):
    """That a state belongs to the child of x with this number; to a missing one 0 belongs."""
    child = ("child", k, "x", "y")
    has_state = _has_state("y", state, names)
    if state == 0:
        return ("not", ("some", "y", ("and", child, ("not", has_state))))
    return ("some", "y", ("and", child, has_state))


def _fits(entries, own, below):
    """That x has the state that is told for the states of its children.

    `entries` is a part of a row for the children that `below` speaks of; it is a state if there are none.
    """
    if not below:
        return own[entries]
    parts, places = each_once(entries)
    rest = [_fits(part, own, below[1:]) for part in parts]
    if len(rest) == 1:
        return rest[0]
    rules = []
    for number, told in enumerate(rest):
        cases = [case for case, place in zip(below[0], places) if place == number]
        rules.append(("or", ("not", any_of(cases)), told))
    return all_of(rules)
