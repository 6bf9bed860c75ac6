"""The judge of papers."""

from treesays.atoms import atom_machine
from treesays.formulas import free_variables
from treesays.growing import each_once
from treesays.machines import is_machine
from treesays.notes import above_of, notes_for
from treesays.parts import inner
from treesays.shapes import check_kind, is_whole


def judge(kind, formula, given):
    """Whether a value is a paper for a core formula."""
    check_kind(kind)
    return _is_paper(kind, formula, given)


def _is_paper(kind, formula, given):
    if not isinstance(given, tuple) or len(given) != 5 or not _is_machine_for(kind, formula, given[0]):
        return False
    formulas = inner(formula)
    if not formulas:
        return given == (atom_machine(kind, formula), (), (), (), ())
    parts = given[4]
    if not isinstance(parts, tuple) or len(parts) != len(formulas):
        return False
    if not all([_is_paper(kind, one, part) for one, part in zip(formulas, parts)]):
        return False
    return _is_shown(kind, formula, given)


def _is_machine_for(kind, formula, value):
    """Whether a value is a machine of the kind with the tracks of a formula."""
    return is_machine(value) and value[0] == kind and value[1] == len(free_variables(formula))


def _is_shown(kind, formula, given):
    """Whether raw, notes and merge show that the machine is right if those of the parts are."""
    machine, raw, written, merge, parts = given
    if not _is_machine_for(kind, formula, raw) or not _is_merge(merge, len(raw[3]), len(machine[3])):
        return False
    if not isinstance(written, tuple) or len(written) != len(raw[3]):
        return False
    notes = notes_for(kind, formula, [part[0] for part in parts])
    meanings = [notes.meaning_of(note) for note in written]
    if None in meanings or meanings[0] != notes.start:
        return False
    if list(raw[3]) != [notes.is_good(meaning) for meaning in meanings]:
        return False
    if list(raw[3]) != [machine[3][state] for state in merge]:
        return False
    return _leads(notes, meanings, raw, merge, machine)


def _is_merge(value, count, goals):
    """Whether a value leads so many states to states below a number, and 0 to 0."""
    if not isinstance(value, tuple) or len(value) != count:
        return False
    # A state of the machine to which nothing leads may be there: nothing is said of it.
    return all([is_whole(state) and 0 <= state < goals for state in value]) and value[0] == 0


def _leads(notes, meanings, raw, merge, machine):
    """Whether each entry of raw leads to the note that is determined, and as the machine does."""
    ways = raw[0][0]
    above = above_of(notes, ways)
    rows, places = each_once(raw[2])
    goal_rows, goal_places = each_once(machine[2])
    # What is the same for several signs is looked at once.
    each = each_once(list(zip(places, notes.places, goal_places)))[0]
    for place, sight, goal_place in each:
        if ways == 1:
            right = _word_row_leads(above, sight, meanings, merge, rows[place], goal_rows[goal_place])
        else:
            right = _tree_row_leads(above, sight, meanings, merge, rows[place], goal_rows[goal_place])
        if not right:
            return False
    return True


def _word_row_leads(above, sight, meanings, merge, row, goal_row):
    for child, state in enumerate(row):
        if meanings[state] != above(sight, meanings[child]) or merge[state] != goal_row[merge[child]]:
            return False
    return True


def _tree_row_leads(above, sight, meanings, merge, row, goal_row):
    for first, line in enumerate(row):
        goal_line = goal_row[merge[first]]
        for second, state in enumerate(line):
            if merge[state] != goal_line[merge[second]]:
                return False
            if meanings[state] != above(sight, meanings[first], meanings[second]):
                return False
    return True
