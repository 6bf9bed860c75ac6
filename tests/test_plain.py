"""treesays/plain.py: formulas in which nothing but atoms is denied (point 30)."""

import random
import unittest

from helper import (
    ATOMS, choices_of, nested, plain_free, plain_holds, plain_inner, random_formula, random_shape, random_sets,
)
from treesays.deciding import equal
from treesays.formulas import check_formula, depth, free_variables
from treesays.meaning import holds
from treesays.plain import is_plain, plain
from treesays.reading import read_formula

A = (1, ("a",))
AB = (1, ("a", "b"))
TREES = (2, ("a", "b"))


def read(text):
    return read_formula(text)


def atoms_in(formula):
    """The atoms, each as often as it is there; true is none of them, but counted beside them."""
    if not plain_inner(formula):
        return [formula]
    return [atom for part in plain_inner(formula) for atom in atoms_in(part)]


def variables_in(formula):
    names = {formula[1]} if formula[0] in ("some", "all", "someset", "allset") else set()
    return (names if plain_inner(formula) else plain_free(formula)).union(
        *[variables_in(part) for part in plain_inner(formula)])


def is_plainly_plain(formula):
    if formula[0] == "not" and plain_inner(formula[1]):
        return False
    return all(is_plainly_plain(part) for part in plain_inner(formula))


class PlainTest(unittest.TestCase):
    def check_form(self, formula):
        found = plain(formula)
        self.assertTrue(is_plainly_plain(found))
        self.assertIs(is_plain(found), True)
        self.assertLessEqual(len([atom for atom in atoms_in(found) if atom != ("true",)]),
                             len([atom for atom in atoms_in(formula) if atom != ("true",)]))
        self.assertLessEqual(len(atoms_in(found)), len(atoms_in(formula)))
        self.assertLessEqual(variables_in(found), variables_in(formula))
        self.assertLessEqual(set(free_variables(found)), plain_free(formula))
        self.assertLessEqual(depth(found), depth(formula))
        return found

    def test_by_hand(self):
        for text, others in [
            ("not (label a(x) and not top(x))", ["not label a(x) or top(x)"]),
            ("not (label a(x) or top(x))", ["not label a(x) and not top(x)"]),
            ("not some x: label a(x)", ["all x: not label a(x)"]), ("not all x: label a(x)", ["some x: not label a(x)"]),
            ("not some X: in(x, X)", ["all X: not in(x, X)"]), ("not all X: in(x, X)", ["some X: not in(x, X)"]),
            ("not not top(x)", ["top(x)"]), ("not not not top(x)", ["not top(x)"]), ("not true", ["not true"]),
            ("not not true", ["true"]), ("top(x)", ["top(x)"]), ("not top(x)", ["not top(x)"]),
            ("not (all x: some y: (below(x, y) and not some Z: not in(x, Z)))",
             ["some x: all y: (not below(x, y) or some Z: not in(x, Z))"]),
        ]:
            self.assertIn(self.check_form(read(text)), [read(other) for other in others])

    def test_atoms(self):
        for atom in ATOMS:
            for formula in (atom, ("not", atom)):
                self.assertIs(is_plain(formula), True)
                self.check_form(formula)
            self.assertIs(is_plain(("not", ("not", atom))), False)
            self.assertIs(is_plain(("and", atom, ("not", ("or", atom, atom)))), False)

    def test_is_plain(self):
        numbers = random.Random(180)
        seen = set()
        for _ in range(400):
            formula = random_formula(numbers, TREES, ["x"], ["X"], numbers.randrange(1, 6))
            self.assertIs(is_plain(formula), is_plainly_plain(formula))
            seen.add(is_plain(formula))
        self.assertEqual(seen, {True, False})

    def test_the_plain_meaning_is_the_same(self):
        numbers = random.Random(181)
        changed = 0
        for kind in (AB, TREES):
            for _ in range(200):
                formula = random_formula(numbers, kind, ["x"], ["X"], numbers.randrange(1, 7))
                formula = ("not", formula) if numbers.random() < 0.5 else formula
                found = self.check_form(formula)
                changed += found != formula
                for size in (0, 1, 2):
                    shape = random_shape(numbers, kind, size)
                    for values in choices_of(shape, sorted(plain_free(formula))):
                        self.assertIs(plain_holds(found, shape, values), plain_holds(formula, shape, values))
        self.assertGreater(changed, 80)

    def test_larger_shapes(self):
        numbers = random.Random(182)
        for _ in range(150):
            formula = ("not", random_formula(numbers, TREES, ["x"], [], numbers.randrange(3, 7)))
            shape = random_shape(numbers, TREES, 4)
            path, = random_sets(numbers, shape, ["x"])[:1]
            values = {"x": path[0] if path else ()}
            self.assertIs(holds(self.check_form(formula), shape, values), holds(formula, shape, values))

    def test_the_machines_are_the_same(self):
        numbers = random.Random(183)
        for kind in (A, AB, TREES):
            for _ in range(60):
                formula = random_formula(numbers, kind, ["x"], ["X"], numbers.randrange(2, 6))
                found = self.check_form(formula)
                check_formula(kind, found)
                if plain_free(found) == plain_free(formula):
                    self.assertIs(equal(kind, found, formula), True)

    def test_not_at_all_depths(self):
        for word in ("not", "and", "or", "some", "all", "someset", "allset"):
            for inside in (("true",), ("not", ("top", "x")), ("not", ("and", ("top", "x"), ("in", "x", "X")))):
                formula = inside
                for deep in range(12):
                    formula = nested(word, 3, formula)
                    if deep % 2:
                        formula = ("not", formula)
                    self.check_form(formula)

    def test_deep_formulas(self):
        for word in ("not", "and", "or", "some", "all", "someset", "allset"):
            for deep in (40, 41, 3000):
                found = plain(("not", nested(word, deep)))
                self.assertIs(is_plain(found), True)
                self.assertLessEqual(depth(found), deep + 1)
                self.assertIs(is_plain(("not", nested(word, deep))), False)

    def test_the_formula_of_a_plain_one(self):
        numbers = random.Random(184)
        for _ in range(100):
            formula = random_formula(numbers, TREES, ["x"], ["X"], 5)
            self.assertEqual(plain(plain(formula)), plain(formula))
            if is_plain(formula):
                self.assertEqual(plain(formula), formula)


if __name__ == "__main__":
    unittest.main()
