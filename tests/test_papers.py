"""treesays/papers.py: papers for core formulas (point 15)."""

import itertools
import random
import unittest

from helper import (
    ATOMS, CORES, NO_KINDS, is_good_note, letter_at, nested, plain_free, plain_inner, plain_note, plain_state,
    random_formula, small_marked,
)
from treesays.atoms import atom_machine
from treesays.errors import InvalidKind, InvalidSentence, TooLarge
from treesays.judge import judge
from treesays.machines import is_machine
from treesays.making import core, machine_of
from treesays.papers import paper
from treesays.reading import read_formula

AB = (1, ("a", "b"))
TREES = (2, ("a", "b"))


def core_formulas():
    return [read_formula(text) for line in CORES.strip().splitlines() for text in line.split("|")]


class PaperTest(unittest.TestCase):
    def check(self, kind, formula, given, most):
        """The paper is as point 15 tells it, for all marked shapes up to a size."""
        self.assertIsInstance(given, tuple)
        machine, raw, notes, merge, parts = given
        self.assertEqual(machine, machine_of(kind, formula))
        self.assertEqual(len(parts), len(plain_inner(formula)))
        if not parts:
            self.assertEqual(given, (atom_machine(kind, formula), (), (), (), ()))
            return
        for part, one in zip(plain_inner(formula), parts):
            self.check(kind, part, one, most)
        self.assertTrue(is_machine(raw))
        self.assertEqual(raw[:2], machine[:2])
        for value in (notes, merge):
            self.assertIsInstance(value, tuple)
            self.assertEqual(len(value), len(raw[3]))
        machines = [one[0] for one in parts]
        for state, note in enumerate(notes):
            self.assertIs(raw[3][state], is_good_note(formula, machines, note))
            self.assertIs(machine[3][merge[state]], raw[3][state])
        for marked in small_marked(kind, raw[1], most):
            state = plain_state(raw, marked)
            self.assertEqual(notes[state], plain_note(formula, machines, marked))
            self.assertEqual(merge[state], plain_state(machine, marked))

    def test_each_form(self):
        for kind, most in ((AB, 3), (TREES, 2)):
            for formula in core_formulas():
                given = paper(kind, formula)
                self.check(kind, formula, given, most if len(plain_free(formula)) < 2 else 2)
                self.assertIs(judge(kind, formula, given), True)

    def test_atoms(self):
        for atom in ATOMS:
            given = paper(TREES, atom)
            self.assertEqual(given, (machine_of(TREES, atom), (), (), (), ()))
            self.assertIs(judge(TREES, atom, given), True)

    def test_by_hand(self):
        true = ((1, ("a",)), 0, ((0,),), (True,))
        never = ((1, ("a",)), 0, ((0,),), (False,))
        self.assertEqual(
            paper((1, ("a",)), ("not", ("true",))),
            (never, never, ((0, ()),), (0,), ((true, (), (), (), ()),)),
        )
        two = ((1, ("a",)), 0, ((1, 1),), (False, True))
        self.assertEqual(
            paper((1, ("a",)), ("some", "x", ("true",))),
            (two, two, ((0, 0), (0, 1)), (0, 1), ((true, (), (), (), ()),)),
        )
        self.assertEqual(
            paper((1, ("a",)), ("someset", "X", ("true",))),
            (true, true, ((0,),), (0,), ((true, (), (), (), ()),)),
        )

    def test_random_formulas(self):
        numbers = random.Random(90)
        for _ in range(250):
            kind = numbers.choice((AB, TREES, (1, ("c", "q", "z"))))
            free = numbers.choice([([], []), (["x"], []), (["u", "x"], []), (["x"], ["X"]), ([], ["U", "X"])])
            formula = core(random_formula(numbers, kind, *free, numbers.randrange(2, 6)))
            given = paper(kind, formula)
            self.check(kind, formula, given, 1)
            self.assertIs(judge(kind, formula, given), True)

    def test_cores_of_formulas(self):
        for text in ("all x: label a(x)", "all X: all x: (in(x, X) or not in(x, Y))",
                     "all x: some y: (below(x, y) or label b(x))"):
            formula = read_formula(text)
            for kind in (AB, TREES):
                given = paper(kind, core(formula))
                self.assertEqual(given[0], machine_of(kind, formula))
                self.assertIs(judge(kind, core(formula), given), True)

    def test_larger_papers(self):
        formula = letter_at(6)
        given = paper(AB, formula)
        self.assertEqual(given[0], machine_of(AB, formula))
        self.assertEqual(len(given[0][3]), 128)
        self.assertIs(judge(AB, formula, given), True)


class ErrorsTest(unittest.TestCase):
    def test_the_kind_comes_first(self):
        for kind in NO_KINDS:
            for formula in (("true",), ("all", "x", ("true",)), ("label", "q", "x"), nested("not", 41)):
                self.assertRaises(InvalidKind, paper, kind, formula)

    def test_formulas_that_are_no_core_formulas(self):
        for around in (lambda f: f, lambda f: ("not", f), lambda f: ("and", ("true",), f), lambda f: ("or", f, f),
                       lambda f: ("some", "x", ("someset", "X", f))):
            for word, name in (("all", "x"), ("all", "y"), ("allset", "X")):
                self.assertRaises(InvalidSentence, paper, AB, around((word, name, ("top", "x"))))

    def test_formulas_that_do_not_fit(self):
        for kind, formula in [
            (AB, ("label", "c", "x")), (AB, ("not", ("child", 1, "x", "y"))),
            (TREES, ("some", "x", ("label", "q", "x"))),
            (AB, nested("not", 41)), (AB, nested("some", 5000)), (AB, core(nested("all", 20))),
            (AB, read_formula("below(a, b) and below(c, d) and below(e, f) and top(g)")),
        ]:
            self.assertRaises(InvalidSentence, paper, kind, formula)

    def test_too_large(self):
        formula = letter_at(9)
        for kind in (AB, TREES):
            self.assertRaises(TooLarge, machine_of, kind, formula)
            self.assertRaises(TooLarge, paper, kind, formula)
            self.assertRaises(TooLarge, paper, kind, ("and", ("true",), formula))
            self.assertRaises(InvalidSentence, paper, kind, ("and", formula, ("all", "x", ("true",))))

    def test_more_notes_than_states(self):
        """There are 3 * 3 * 3 * 3 * 3 * 3 counts of six element variables, so raw has no room for them."""
        pairs = read_formula("below(a, b) and below(c, d) and below(e, f)")
        self.assertRaises(TooLarge, paper, AB, pairs)
        for free in range(5):
            formula = ("true",)
            for name in "abcd"[:free]:
                formula = ("and", formula, ("top", name))
            self.assertEqual(len(set(paper(AB, ("not", formula))[2])), len(paper(AB, ("not", formula))[2]))
            counts = {note[-1] for note in paper(AB, ("not", formula))[2]}
            self.assertEqual(counts, set(itertools.product(range(3), repeat=free)))


if __name__ == "__main__":
    unittest.main()
