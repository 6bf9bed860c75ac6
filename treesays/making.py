"""Machines of formulas."""

from treesays.atoms import atom_machine
from treesays.formulas import check_formula, free_variables
from treesays.growing import grown
from treesays.machines import MOST_STATES, shrunk
from treesays.notes import Counted, above_of, notes_for
from treesays.parts import built, outer

# The meaning of all marked shapes above which nothing is accepted.
LOST = ()


def core(formula):
    """The core of a formula."""
    return built(formula, _core_above)


def _core_above(now, inside):
    """The core of a part, by the cores of the formulas directly inside of it."""
    if now[0] in ("all", "allset"):
        word = "some" if now[0] == "all" else "someset"
        return ("not", (word, now[1], ("not", *inside)))
    return (*outer(now), *inside)


def machine_of(kind, formula):
    """The machine of a formula."""
    check_formula(kind, formula)
    return built(core(formula), lambda now, machines: _machine_above(kind, now, machines))


def _machine_above(kind, formula, machines):
    """The machine of a core formula, by those of the formulas directly inside of it."""
    if not machines:
        return atom_machine(kind, formula)
    notes = notes_for(kind, formula, machines)
    above = above_of(notes, kind[0])
    if isinstance(notes, Counted):
        above = _without_lost(above, _lost_test(formula[0], machines))
    meanings, rows = grown(kind[0], len(notes.rows), notes.start, above, MOST_STATES)
    truths = [meaning != LOST and notes.is_good(meaning) for meaning in meanings]
    return shrunk(kind, len(free_variables(formula)), notes.places, rows, truths)


def _without_lost(above, is_lost):
    """What tells the meaning above children as `above` does, but LOST for all that are lost.

    A formula with many element variables has too many notes otherwise, most of
    which only tell how often each is marked when one is marked twice already.
    """
    def above_or_lost(row, *children):
        if LOST in children:
            return LOST
        meaning = above(row, *children)
        if is_lost(meaning):
            return LOST
        return meaning

    return above_or_lost


def _lost_test(word, machines):
    """What tells whether nothing above a meaning (of Counted) is accepted."""
    lost = [None, None]
    if word == "and":
        lost = [lost_state(machine) for machine in machines]
    return lambda meaning: meaning[3] > 0 or meaning[0] == lost[0] or meaning[1] == lost[1]


def lost_state(machine):
    """The state of a least machine above which nothing is accepted, or None if it has none."""
    kind, _, table, good = machine
    for state, truth in enumerate(good):
        if not truth and all([_stays(row, kind[0], state) for row in table]):
            return state
    return None


def _stays(row, ways, state):
    """Whether a row leads from a state, of any child, to this state again."""
    if ways == 1:
        return row[state] == state
    return all([goal == state for goal in row[state]]) and all([line[state] == state for line in row])
