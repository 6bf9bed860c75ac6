"""treesays/judge.py: what is a paper, and what is none (point 15)."""

import itertools
import random
import unittest

from helper import CORES, NO_KINDS, atoms_for, entry, make_machine, plain_paper, plain_signs
from treesays.atoms import atom_machine
from treesays.errors import InvalidKind
from treesays.judge import judge
from treesays.making import machine_of
from treesays.papers import paper
from treesays.reading import read_formula

A = (1, ("a",))
AB = (1, ("a", "b"))
TREES = (2, ("a", "b"))
TREE_A = (2, ("a",))


def core_formulas():
    return [read_formula(text) for line in CORES.strip().splitlines() for text in line.split("|")]


def other_leaves(leaf):
    """Values that may stand in the place of an integer, a truth or a string."""
    if isinstance(leaf, bool):
        return [not leaf, int(leaf), (), str(leaf)]
    if isinstance(leaf, int):
        return [leaf + 1, leaf - 1, bool(leaf), str(leaf), (leaf,), 1000]
    return ["q", "", 0, True, (leaf,)]


def changes(value):
    """Values with one thing changed, at any depth."""
    if not isinstance(value, tuple):
        yield from other_leaves(value)
        return
    yield from (0, True, "", value + (0,), value + ((),), value + value[-1:], (value,))
    if value:
        yield from (value[1:], value[:-1], ())
    for at in range(len(value)):
        if value[at:at + 1] != value[at + 1:at + 2] and at + 1 < len(value):
            yield value[:at] + (value[at + 1], value[at]) + value[at + 2:]
        for new in changes(value[at]):
            yield value[:at] + (new,) + value[at + 1:]


def same(one, other):
    """Whether two values are the same; True is not 1 here."""
    return repr(one) == repr(other)


def with_states(machine, count, above, good):
    """A machine with more states, for whose tables `above` tells what is not in it."""
    old = len(machine[3])
    signs = plain_signs(machine[0], machine[1])

    def known_or_above(sign, states):
        if max(states) < old:
            return entry(machine, signs.index(sign), states)
        return above(sign, states)

    return make_machine(machine[0], machine[1], old + count, known_or_above,
                        [state for state in range(old) if machine[3][state]] + good)


class Case(unittest.TestCase):
    def accept(self, kind, formula, given):
        self.assertIs(judge(kind, formula, given), True, (kind, formula))

    def refuse(self, kind, formula, given):
        self.assertIs(judge(kind, formula, given), False, (kind, formula, given))


class TrueTest(Case):
    def test_papers(self):
        for kind in (A, AB, TREES):
            for formula in core_formulas():
                if "b" in kind[1] or "'b'" not in str(formula):
                    self.accept(kind, formula, paper(kind, formula))

    def test_papers_made_otherwise(self):
        numbers = random.Random(100)
        for kind in (AB, TREE_A):
            for formula in core_formulas():
                if "b" in kind[1] or "'b'" not in str(formula):
                    given = plain_paper(numbers, kind, formula, atom_machine)
                    if len(given[1] or ()) == 0 or len(given[1][3]) <= 300:
                        self.accept(kind, formula, given)

    def test_several_states_with_the_same_note(self):
        numbers = random.Random(101)
        for text in ("not label a(x)", "some x: label a(x)", "some X: in(x, X)", "label a(x) and top(x)",
                     "not some x: not label a(x)", "some x: true", "some X: some x: in(x, Y)"):
            formula = read_formula(text)
            for kind in (A, TREE_A):
                given = plain_paper(numbers, kind, formula, atom_machine, copies=3)
                self.assertLess(len(set(given[2])), len(given[2]))
                self.accept(kind, formula, given)

    def test_states_of_the_machine_to_which_nothing_goes(self):
        """The machine of a paper need not be least, and nothing is said of such states."""
        for kind in (A, AB, TREE_A):
            for text in ("not true", "not label a(x)", "some x: top(x)", "true and true", "some X: in(x, X)",
                         "some x: true", "some X: true", "not some x: not top(x)"):
                formula = read_formula(text)
                machine, raw, notes, merge, parts = paper(kind, formula)
                count = len(machine[3])
                for more, goal in ((1, 0), (1, count), (2, count + 1), (3, count - 1)):
                    for good in ([], [count], list(range(count, count + more))):
                        wide = with_states(machine, more, lambda sign, states: goal, good)
                        self.accept(kind, formula, (wide, raw, notes, merge, parts))
                        self.refuse(kind, formula, (wide, raw, notes, (count,) + merge[1:], parts))
                        self.refuse(kind, formula, (wide, raw, notes, merge[:-1] + (count + more,), parts))
                        self.refuse(kind, formula, (wide, raw, notes, merge[:-1] + (-1,), parts))
                # A part may have such a machine, too.
                around = ("not", formula)
                outer = paper(kind, around)
                wide = with_states(machine, 1, lambda sign, states: 0, [])
                self.accept(kind, around, (*outer[:4], ((wide, raw, notes, merge, parts),)))

    def test_raw_of_one_paper_with_another_least_machine(self):
        """The states of the machine may be numbered otherwise."""
        formula = read_formula("some x: label a(x)")
        machine, raw, notes, merge, parts = paper(AB, ("not", formula))
        self.assertEqual(machine, (AB, 0, ((1, 1), (0, 1)), (True, False)))
        formula = read_formula("not some x: (label a(x) and some y: below(x, y))")
        machine, raw, notes, merge, parts = paper(AB, formula)
        self.assertEqual(len(machine[3]), 3)
        new = (0, 2, 1)
        table = tuple(tuple(new[row[new[state]]] for state in range(3)) for row in machine[2])
        other = (AB, 0, table, tuple(machine[3][new[state]] for state in range(3)))
        self.accept(AB, formula, (other, raw, notes, tuple(new[state] for state in merge), parts))
        self.refuse(AB, formula, (other, raw, notes, merge, parts))


# Formulas, and notes of the right form that belong to no marked shape.
UNREACHED = [
    (A, "not label a(x)", [(0, (1,)), (1, (0,)), (1, (2,))]),
    (TREE_A, "not top(x)", [(0, (1,))]),
    (AB, "label a(x) and label b(x)", [(1, 2, (0,)), (0, 0, (2,))]),
    (A, "top(x) or inside(X, Y)", [(1, 1, (0,)), (0, 0, (1,))]),
    (A, "not in(x, X)", [(2, (2,))]),
    (AB, "some x: label a(x)", [(1,), (1, 2)]),
    (TREE_A, "some x: top(x)", [(1,), (2,)]),
    (A, "some X: in(x, X)", [(0, 1), (0, 2)]),
    (A, "some y: top(x)", [(1, 0), (2, 0)]),
]


def with_entry(machine, row, states, new):
    """A machine with another entry of the table."""
    signs = plain_signs(machine[0], machine[1])
    good = [state for state, truth in enumerate(machine[3]) if truth]

    def above(sign, some):
        if sign == signs[row] and some == states:
            return new
        return entry(machine, signs.index(sign), some)

    return make_machine(machine[0], machine[1], len(machine[3]), above, good)


def leads_on(raw, merge, machine):
    """What stands behind the colon in point 15, 3."""
    entries = itertools.product(range(len(raw[2])), itertools.product(range(len(merge)), repeat=raw[0][0]))
    return merge[0] == 0 and list(raw[3]) == [machine[3][goal] for goal in merge] and all(
        merge[entry(raw, row, states)] == entry(machine, row, [merge[state] for state in states])
        for row, states in entries
    )


def renumbered(machine, order):
    """A machine whose states are those of another one in this order."""
    signs = plain_signs(machine[0], machine[1])
    return make_machine(
        machine[0], machine[1], len(order),
        lambda sign, states: order.index(entry(machine, signs.index(sign), [order[state] for state in states])),
        [k for k, state in enumerate(order) if machine[3][state]],
    )


def with_track(machine):
    """A machine with one track more, to which it pays no attention."""
    return machine[0], machine[1] + 1, tuple(row for row in machine[2] for _ in (0, 1)), machine[3]


class UnreachedStateTest(Case):
    """States of raw that belong to no marked shape."""

    def setUp(self):
        numbers = random.Random(102)
        self.cases = []
        for kind, text, more in UNREACHED:
            formula = read_formula(text)
            reached = set(paper(kind, formula)[2])
            for note in more:
                self.assertNotIn(note, reached)
            given = plain_paper(numbers, kind, formula, atom_machine, more=more)
            self.cases.append((kind, formula, given, [k for k, note in enumerate(given[2]) if note not in reached]))

    def test_such_states_may_be_there(self):
        for kind, formula, given, unreached in self.cases:
            self.assertGreater(len(unreached), 0)
            self.accept(kind, formula, given)

    def test_their_entries_are_looked_at(self):
        for kind, formula, (machine, raw, notes, merge, parts), unreached in self.cases:
            combinations = itertools.product(range(len(notes)), repeat=kind[0])
            for states in [some for some in combinations if set(some) & set(unreached)]:
                for row in range(len(raw[2])):
                    new = (entry(raw, row, states) + 1) % len(notes)
                    changed = with_entry(raw, row, states, new)
                    self.refuse(kind, formula, (machine, changed, notes, merge, parts))
                    self.refuse(kind, formula, (changed, raw, notes, merge, parts))
                    # The machine goes as raw goes, but the notes do not.
                    self.refuse(kind, formula, (changed, changed, notes, merge, parts))

    def test_their_notes_have_the_told_form(self):
        for text, wrong in [
            ("not label a(x)", [
                (0, (3,)), (0, (-1,)), (3, (1,)), (-1, (1,)), (0, ()), (0, (1, 1)), (0,), (), (False, (1,)),
                (0, (True,)), (0, 1), 0, "", True, (0, 0, (1,)), ("0", (1,)), (0, ("1",)), ((0,), (1,)), (0, (1,), ()),
            ]),
            ("some x: label a(x)", [
                (), (0, 0), (1, 0), (0, 3), (-1, 0), (True,), (0, True), ("0",), 0, (0, (1,)), "", False,
            ]),
            ("some y: top(x)", [(0,), (0, 2), (0, -1), (3, 0), (0, False), (0, 0, 0), (), 0, (True, 1), ((0,), 0)]),
            ("some Y: top(x)", [(0, 0), (3,), (-1,), (False,), (), 0, "", ((0,),)]),
        ]:
            formula = read_formula(text)
            machine, raw, notes, merge, parts = plain_paper(random.Random(103), A, formula, atom_machine, copies=2)
            for note in wrong:
                # A state more, above which there is what is above the empty shape.
                wide = with_states(raw, 1, lambda sign, states: entry(raw, plain_signs(A, raw[1]).index(sign), (0,)),
                                   [len(notes)] if raw[3][0] else [])
                self.accept(A, formula, (wide, wide, notes + notes[:1], merge + (len(notes),), parts))
                self.refuse(A, formula, (wide, wide, notes + (note,), merge + (len(notes),), parts))

    def test_a_set_has_at_least_one_state(self):
        """A state with an empty set as its note, above which there is itself again, and which is not good."""
        for kind, text in ((A, "some x: label a(x)"), (TREE_A, "some X: in(x, X)")):
            formula = read_formula(text)
            machine, raw, notes, merge, parts = plain_paper(random.Random(104), kind, formula, atom_machine)
            wide = with_states(raw, 1, lambda sign, states: len(notes), [])
            self.refuse(kind, formula, (wide, wide, notes + ((),), merge + (len(notes),), parts))

    def test_a_set_is_ascending(self):
        formula = read_formula("some X: in(x, X)")
        machine, raw, notes, merge, parts = paper(A, formula)
        self.assertEqual(notes, ((0,), (1, 2), (1,)))
        for wrong in ((0, 0), (1, 1), (1, 0), (0, 1)):
            self.refuse(A, formula, (machine, raw, ((0,), (1, 2), wrong), merge, parts))
        for wrong in ((2, 1), (1, 2, 2), (1, 1, 2), (0, 0, 2)):
            self.refuse(A, formula, (machine, raw, ((0,), wrong, (1,)), merge, parts))

    def test_the_empty_shape_has_the_state_0(self):
        """All is right here but the state from which the reading begins."""
        for kind, formula, (machine, raw, notes, merge, parts), unreached in self.cases:
            for state in unreached:
                order = [state, *[k for k in range(len(notes)) if k != state]]
                other = renumbered(raw, order)
                numbers = tuple(order.index(k) for k in range(len(notes)))
                self.refuse(kind, formula, (other, other, tuple(notes[k] for k in order), merge, parts))
                self.refuse(kind, formula, (other, raw, notes, numbers, parts))
                self.refuse(kind, formula, (raw, other, tuple(notes[k] for k in order), tuple(order), parts))

    def test_they_are_good_if_their_notes_are(self):
        for kind, formula, (machine, raw, notes, merge, parts), unreached in self.cases:
            for state in unreached:
                changed = raw[:3] + (tuple(truth != (k == state) for k, truth in enumerate(raw[3])),)
                self.refuse(kind, formula, (machine, changed, notes, merge, parts))
                self.refuse(kind, formula, (changed, changed, notes, merge, parts))

    def test_they_go_where_the_machine_goes(self):
        """Another merge is right only if it leads on, too."""
        found = []
        for kind, formula, (machine, raw, notes, merge, parts), unreached in self.cases:
            for state in unreached:
                for goal in range(len(notes)):
                    changed = merge[:state] + (goal,) + merge[state + 1:]
                    found.append(judge(kind, formula, (machine, raw, notes, changed, parts)))
                    self.assertIs(found[-1], leads_on(raw, changed, machine))
        self.assertGreater(found.count(False), found.count(True))


class FalseTest(Case):
    def test_one_thing_changed(self):
        """Any one thing at any place of a paper."""
        for kind, text in [
            (A, "not label a(x)"), (A, "some x: label a(x)"), (A, "some x: true"), (A, "some X: in(x, X)"),
            (A, "some X: true"), (AB, "label a(x) and label b(x)"), (A, "top(x) or inside(X, Y)"),
            (A, "true and top(x)"), (AB, "not some x: label b(x)"), (TREE_A, "not top(x)"), (TREE_A, "some x: top(x)"),
            (TREE_A, "some x: true"), (TREE_A, "top(x) or true"), (AB, "some y: (below(x, y) and label a(y))"),
            (A, "below(x, y)"), (TREE_A, "true"), (A, "some Y: inside(X, X)"),
        ]:
            formula = read_formula(text)
            given = paper(kind, formula)
            self.accept(kind, formula, given)
            count = 0
            for changed in changes(given):
                if not same(changed, given):
                    self.refuse(kind, formula, changed)
                    count += 1
            self.assertGreater(count, 50)

    def test_parts_exchanged(self):
        for word in ("and", "or"):
            for kind in (AB, TREES):
                formula = (word, ("label", "a", "x"), ("label", "b", "x"))
                machine, raw, notes, merge, parts = paper(kind, formula)
                self.refuse(kind, formula, (machine, raw, notes, merge, parts[::-1]))
                other = paper(kind, (word, formula[2], formula[1]))
                self.refuse(kind, formula, other)

    def test_papers_of_other_formulas(self):
        formulas = [read_formula(text) for text in (
            "label a(x) and label b(x)", "label a(x) or label b(x)", "not label a(x)", "not label b(x)", "not top(x)",
            "some y: below(x, y)", "some y: child 0(x, y)", "some X: in(x, X)", "label a(x)", "top(x)",
        )]
        for kind in (AB, TREES):
            given = [paper(kind, formula) for formula in formulas]
            for one, formula in zip(given, formulas):
                for other in formulas:
                    self.assertIs(judge(kind, other, one), other == formula)

    def test_papers_of_other_kinds(self):
        formula = read_formula("not label a(x)")
        kinds = (A, AB, TREE_A, TREES, (1, ("a", "c")), (1, ("a", "b", "c")))
        for kind in kinds:
            for other in kinds:
                self.assertIs(judge(kind, formula, paper(other, formula)), kind == other)

    def test_other_tracks(self):
        one, other = read_formula("not label a(x)"), read_formula("not (label a(x) and top(y))")
        self.refuse(AB, one, paper(AB, other))
        machine, raw, notes, merge, parts = paper(AB, one)
        wider = paper(AB, other)
        self.refuse(AB, one, (wider[0], raw, notes, merge, parts))
        self.refuse(AB, one, (machine, wider[1], notes, merge, parts))
        self.refuse(AB, one, (machine, raw, notes, merge, wider[4]))

    def test_a_track_too_many(self):
        for kind in (A, TREE_A):
            for text in ("true and true", "some x: true", "some X: true", "some x: label a(x)", "not inside(X, Y)"):
                formula = read_formula(text)
                machine, raw, notes, merge, parts = paper(kind, formula)
                self.refuse(kind, formula, (with_track(machine), with_track(raw), notes, merge, parts))
                self.refuse(kind, formula, (machine, with_track(raw), notes, merge, parts))
                self.refuse(kind, formula, (with_track(machine), raw, notes, merge, parts))
            self.refuse(kind, ("true",), (with_track(atom_machine(kind, ("true",))), (), (), (), ()))

    def test_a_state_too_many(self):
        for kind in (A, TREE_A):
            for text in ("not label a(x)", "some x: top(x)", "true and true", "some X: in(x, X)"):
                formula = read_formula(text)
                machine, raw, notes, merge, parts = paper(kind, formula)
                wide = with_states(raw, 1, lambda sign, states: 0, [])
                self.refuse(kind, formula, (machine, wide, notes, merge, parts))
                self.refuse(kind, formula, (machine, raw, notes + notes[-1:], merge, parts))
                self.refuse(kind, formula, (machine, raw, notes, merge + merge[-1:], parts))
                inside = with_states(parts[0][0], 1, lambda sign, states: 0, [])
                self.refuse(kind, formula, (machine, raw, notes, merge, ((inside, *parts[0][1:]), *parts[1:])))

    def test_a_machine_that_is_not_that_of_the_atom(self):
        for kind in (AB, TREES):
            for atom in atoms_for(kind):
                machine = atom_machine(kind, atom)
                self.accept(kind, atom, (machine, (), (), (), ()))
                wide = with_states(machine, 1, lambda sign, states: 0, [])
                self.refuse(kind, atom, (wide, (), (), (), ()))
                self.refuse(kind, atom, (machine[:3] + (tuple(not truth for truth in machine[3]),), (), (), (), ()))
                self.refuse(kind, atom, (machine, machine, (), (), ()))
                self.refuse(kind, atom, (machine, (), (), (0,), ()))

    def test_a_right_machine_alone_is_not_enough(self):
        for text in ("not label a(x)", "some x: top(x)"):
            formula = read_formula(text)
            self.refuse(AB, formula, (machine_of(AB, formula), (), (), (), ()))
            machine, raw, notes, merge, parts = paper(AB, formula)
            self.refuse(AB, formula, (machine, raw, notes, merge, ()))
            self.refuse(AB, formula, (machine, machine, notes, merge, parts))

    def test_values_that_are_no_papers(self):
        deep = ()
        for _ in range(5000):
            deep = (deep,)
        values = [
            0, 1, -7, True, False, "", "paper", (), (0,), (0, 0, 0, 0, 0), ((), (), (), (), ()),
            ("a", "b", "c", "d", "e"), (True,) * 5, ((),) * 4, ((),) * 6, ((0,) * 4, (), (), (), ()),
            (((1, ("a",)), 0, ((0,),), (True,)),) * 5,
            deep, (deep,) * 5, ((1, "a"), 0, (), ()), (((1, ("a",)), True, ((0,),), (True,)), (), (), (), ()),
            (((1, "a"), 0, ((0,),), (True,)), (), (), (), ()), (((1, 1), 0, ((0,),), (True,)), (), (), (), ()),
            ((((), ()), 0, ((0,),), (True,)), (), (), (), ()), (("ab", 0, ((0,),), (True,)), (), (), (), ()),
            (((1, (deep,)), 0, ((0,),), (True,)), (), (), (), ()), (((1, ("a",)), 0, deep, (True,)), (), (), (), ()),
            ((A, 0, ((0,),), (1,)), (), (), (), ()), ((A, 0, ((False,),), (True,)), (), (), (), ()),
            (((True, ("a",)), 0, ((0,),), (True,)), (), (), (), ()), ((A, False, ((0,),), (True,)), (), (), (), ()),
        ]
        for kind in (A, TREE_A):
            for formula in (("true",), ("not", ("true",)), ("and", ("true",), ("true",)), ("some", "x", ("top", "x")),
                            ("some", "x", ("true",)), ("someset", "X", ("true",)), ("top", "x")):
                right = paper(kind, formula)
                for value in values:
                    self.refuse(kind, formula, value)
                    for at in range(5):
                        if value != right[at]:
                            self.refuse(kind, formula, right[:at] + (value,) + right[at + 1:])

    def test_truths_where_integers_must_stand(self):
        formula = read_formula("some x: true")
        machine, raw, notes, merge, parts = paper(A, formula)
        self.accept(A, formula, (machine, raw, ((0, 0), (0, 1)), (0, 1), parts))
        self.refuse(A, formula, (machine, raw, ((0, False), (0, True)), (0, 1), parts))
        self.refuse(A, formula, (machine, raw, ((False, 0), (False, 1)), (0, 1), parts))
        self.refuse(A, formula, (machine, raw, ((0, 0), (0, 1)), (False, True), parts))

    def test_the_kind_comes_first(self):
        for kind in NO_KINDS:
            for formula in (("true",), ("not", ("true",))):
                self.assertRaises(InvalidKind, judge, kind, formula, paper(A, formula))
                self.assertRaises(InvalidKind, judge, kind, formula, 0)


if __name__ == "__main__":
    unittest.main()
