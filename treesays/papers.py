"""Papers, which show that the machine of a formula is right."""

from treesays.alike import merged
from treesays.atoms import atom_machine
from treesays.errors import InvalidSentence
from treesays.formulas import check_formula, free_variables
from treesays.growing import at_places, grown
from treesays.machines import MOST_STATES
from treesays.notes import above_of, notes_for
from treesays.parts import all_parts, built


def paper(kind, formula):
    """A paper for a core formula."""
    check_formula(kind, formula)
    if any([now[0] in ("all", "allset") for now in all_parts(formula)]):
        raise InvalidSentence("there are papers for core formulas only")
    return built(formula, lambda now, parts: _paper_above(kind, now, parts))


def _paper_above(kind, formula, parts):
    """The paper for a formula, by those for the formulas directly inside of it."""
    if not parts:
        return atom_machine(kind, formula), (), (), (), ()
    notes = notes_for(kind, formula, [made[0] for made in parts])
    meanings, rows = grown(kind[0], len(notes.rows), notes.start, above_of(notes, kind[0]), MOST_STATES)
    truths = [notes.is_good(meaning) for meaning in meanings]
    fewer, good, merge = merged(kind[0], rows, truths)
    tracks = len(free_variables(formula))
    machine = (kind, tracks, at_places(fewer, notes.places), good)
    raw = (kind, tracks, at_places(rows, notes.places), tuple(truths))
    return machine, raw, tuple([notes.note_of(meaning) for meaning in meanings]), tuple(merge), tuple(parts)
