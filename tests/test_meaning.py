"""treesays/meaning.py: the plain meaning of formulas (points 6 and 8)."""

import random
import unittest

from helper import (
    ATOMS, KINDS, atoms_for, choices_of, nested, plain_free, plain_holds, plain_paths, plain_shapes, random_formula,
    random_shape, word,
)
from treesays.meaning import holds
from treesays.reading import read_formula

AB = (1, ("a", "b"))
TREES = (2, ("a", "b"))
# a
# |- 0: b
# |     `- 1: a
# `- 1: a
TREE = ("a", ("b", (), ("a", (), ())), ("a", (), ()))


class Case(unittest.TestCase):
    def check(self, formula, shape, values, truth):
        formula = read_formula(formula) if isinstance(formula, str) else formula
        self.assertIs(holds(formula, shape, values), truth, (formula, shape, values))


class AtomsTest(Case):
    def test_words(self):
        for x in range(3):
            self.check("label a(x)", word("aba"), {"x": (0,) * x}, x != 1)
            self.check("label b(x)", word("aba"), {"x": (0,) * x}, x == 1)
            self.check("label c(x)", word("aba"), {"x": (0,) * x}, False)
            self.check("top(x)", word("aba"), {"x": (0,) * x}, x == 0)
            for y in range(3):
                values = {"x": (0,) * x, "y": (0,) * y}
                self.check("child 0(x, y)", word("aba"), values, y == x + 1)
                self.check("below(x, y)", word("aba"), values, y > x)
                self.check("same(x, y)", word("aba"), values, y == x)

    def test_trees(self):
        known = sorted(plain_paths(TREE))
        self.assertEqual(known, [(), (0,), (0, 1), (1,)])
        for x in known:
            self.check("label b(x)", TREE, {"x": x}, x == (0,))
            self.check("top(x)", TREE, {"x": x}, x == ())
            for y in known:
                pair = {"x": x, "y": y}
                self.check("child 0(x, y)", TREE, pair, (x, y) == ((), (0,)))
                self.check("child 1(x, y)", TREE, pair, (x, y) in [((), (1,)), ((0,), (0, 1))])
                self.check("below(x, y)", TREE, pair, x == () != y or (x, y) == ((0,), (0, 1)))
                self.check("same(x, y)", TREE, pair, x == y)

    def test_sets(self):
        known = sorted(plain_paths(TREE))
        for values in choices_of(TREE, ["X", "Y"]):
            self.check("inside(X, Y)", TREE, values, set(values["X"]) <= set(values["Y"]))
            self.check("inside(X, X)", TREE, values, True)
            for x in known:
                self.check("in(x, X)", TREE, {**values, "x": x}, x in values["X"])

    def test_empty_and_full_sets(self):
        for shape in (word("ab"), TREE):
            full = tuple(sorted(plain_paths(shape)))
            self.check("inside(X, Y)", shape, {"X": (), "Y": ()}, True)
            self.check("inside(X, Y)", shape, {"X": (), "Y": full}, True)
            self.check("inside(X, Y)", shape, {"X": full, "Y": ()}, False)
            self.check("all x: in(x, X)", shape, {"X": full}, True)
            self.check("all x: in(x, X)", shape, {"X": full[1:]}, False)
            self.check("some x: in(x, X)", shape, {"X": ()}, False)

    def test_one_variable_twice(self):
        for x in ((), (0,)):
            self.check("same(x, x)", word("ab"), {"x": x}, True)
            self.check("below(x, x)", word("ab"), {"x": x}, False)
            self.check("child 0(x, x)", word("ab"), {"x": x}, False)

    def test_far_down(self):
        """Also the last ones of many elements are where they are."""
        shape = word("ab" * 150)
        self.check("child 0(x, y)", shape, {"x": (0,) * 298, "y": (0,) * 299}, True)
        self.check("below(x, y)", shape, {"x": (0,) * 10, "y": (0,) * 299}, True)
        self.check("label b(x)", shape, {"x": (0,) * 299}, True)
        self.check("in(x, X)", shape, {"x": (0,) * 299, "X": ((), (0,) * 299)}, True)
        self.check("in(x, X)", shape, {"x": (0,) * 298, "X": ((), (0,) * 299)}, False)


class FormsTest(Case):
    def test_the_example(self):
        self.check("some x: (top(x) and label b(x))", ("b", ("a", ())), {}, True)

    def test_truths(self):
        self.check("true", (), {}, True)
        self.check("not true", TREE, {}, False)
        for first in (False, True):
            for second in (False, True):
                text = f"{'' if first else 'not '}true %s {'' if second else 'not '}true"
                self.check(text % "and", TREE, {}, first and second)
                self.check(text % "or", TREE, {}, first or second)

    def test_elements(self):
        self.check("all x: label a(x)", word("aaa"), {}, True)
        self.check("all x: label a(x)", word("aab"), {}, False)
        self.check("some x: label b(x)", word("aab"), {}, True)
        self.check("some x: label b(x)", word("aaa"), {}, False)
        self.check("all x: (top(x) or some y: (child 0(y, x) or child 1(y, x)))", TREE, {}, True)
        self.check("all x: some y: below(x, y)", TREE, {}, False)
        self.check("some x: all y: (same(x, y) or below(x, y))", TREE, {}, True)

    def test_sets_of_elements(self):
        # Every second letter of an even number: a set with the first letter and not with the last one.
        even = ("some X: (all x: ((not top(x) or in(x, X)) and (some y: child 0(x, y) or not in(x, X))) and "
                "all x: all y: (not child 0(x, y) or (in(x, X) and not in(y, X) or not in(x, X) and in(y, X))))")
        for length in range(7):
            self.check(even, word("a" * length), {}, length % 2 == 0)
            self.check("not " + even, word("b" * length), {}, length % 2 == 1)
        self.check("all X: (some x: in(x, X) or inside(X, Y))", TREE, {"Y": ()}, True)
        self.check("all X: some x: in(x, X)", TREE, {}, False)
        self.check("some X: all x: in(x, X)", TREE, {}, True)
        self.check("some X: all Y: inside(Y, X)", TREE, {}, True)
        self.check("all X: some Y: (inside(X, Y) and inside(Y, X))", TREE, {}, True)
        self.check("all X: (inside(X, Y) or inside(Y, X))", TREE, {"Y": ((),)}, False)

    def test_twelve_elements(self):
        shape = word("abaabaabaaba")
        self.check("some X: all x: ((in(x, X) or label b(x)) and (not in(x, X) or label a(x)))", shape, {}, True)
        self.check("all X: some x: (in(x, X) and label a(x))", shape, {}, False)

    def test_variables_bound_again(self):
        shape = word("ab")
        self.check("some x: (label a(x) and some x: label b(x))", shape, {}, True)
        self.check("some x: (some x: label b(x) and label a(x))", shape, {}, True)
        self.check("some x: (some x: label b(x) and label b(x) and top(x))", shape, {}, False)
        self.check("some x: label b(x) and label a(x)", shape, {"x": ()}, True)
        self.check("label a(x) and all x: (label b(x) or top(x)) and label a(x)", shape, {"x": ()}, True)
        self.check("some X: (some X: all x: in(x, X) and not some x: in(x, X))", shape, {}, True)
        self.check("some X: all x: not in(x, X) and in(x, X)", shape, {"x": (), "X": ((),)}, True)

    def test_variables_that_do_not_occur(self):
        for shape in ((), word("ab")):
            self.check("some x: true", shape, {}, bool(shape))
            self.check("all x: not true", shape, {}, not shape)
            self.check("some X: true", shape, {}, True)
            self.check("all X: not true", shape, {}, False)

    def test_the_empty_shape(self):
        for text, truth in [
            ("all x: label a(x)", True), ("all x: not true", True), ("some x: true", False), ("not some x: true", True),
            ("some X: true", True), ("all X: true", True), ("some X: some x: in(x, X)", False),
            ("all X: all x: in(x, X)", True), ("all X: all Y: inside(X, Y)", True), ("some X: not inside(X, X)", False),
        ]:
            self.check(text, (), {}, truth)
        self.check("inside(X, Y)", (), {"X": (), "Y": ()}, True)

    def test_names_of_several_characters(self):
        self.check("child 0(upper1, lower1) and in(upper1, Set1)", word("ab"),
                   {"upper1": (), "lower1": (0,), "Set1": ((),)}, True)


class PlainMeaningTest(Case):
    def test_all_atoms_in_small_shapes(self):
        for kind in (AB, TREES):
            for atom in atoms_for(kind):
                for size in range(4):
                    for shape in plain_shapes(kind[0], kind[1], size):
                        for values in choices_of(shape, sorted(plain_free(atom))):
                            self.check(atom, shape, values, plain_holds(atom, shape, values))

    def test_random_formulas(self):
        numbers = random.Random(60)
        truths = []
        for _ in range(2500):
            kind = numbers.choice(KINDS)
            formula = random_formula(numbers, kind, ["u", "x"], ["U", "X"], numbers.randrange(1, 6))
            shape = random_shape(numbers, kind, numbers.randrange(4))
            choices = choices_of(shape, sorted(plain_free(formula)))
            for values in numbers.sample(choices, min(3, len(choices))):
                truths.append(plain_holds(formula, shape, values))
                self.check(formula, shape, values, truths[-1])
        self.assertGreater(sum(truths), 500)
        self.assertLess(sum(truths), len(truths) - 500)

    def test_larger_shapes(self):
        numbers = random.Random(61)
        for _ in range(60):
            kind = numbers.choice((AB, TREES))
            shape = random_shape(numbers, kind, 9)
            formula = ("some", "y", random_formula(numbers, kind, ["x", "y"], [], 4))
            if "set" not in str(formula):
                for x in plain_paths(shape):
                    self.check(formula, shape, {"x": x}, plain_holds(formula, shape, {"x": x}))

    def test_forty_deep(self):
        for around in ("not", "and", "or"):
            self.check(nested(around, 40), word("ab"), {}, around != "not")
        self.check(nested("some", 40, ("top", "x")), word("ab"), {}, True)
        self.check(nested("all", 40, ("top", "x")), word("ab"), {}, False)

    def test_long_words(self):
        shape = word("a" * 700)
        self.check("all x: label a(x) and some x: not some y: child 0(x, y)", shape, {}, True)


class ArgumentsTest(Case):
    def test_values_are_left_as_they_were(self):
        for text in ("some x: below(x, y)", "all x: some y: in(x, X)", "some X: in(y, X)", "in(y, X)",
                     "in(y, X) and some X: all y: not in(y, X)"):
            values = {"y": (0,), "X": ((), (0,)), "x": ()}
            holds(read_formula(text), word("ab"), values)
            self.assertEqual(values, {"y": (0,), "X": ((), (0,)), "x": ()})
            self.assertEqual(list(values), ["y", "X", "x"])

    def test_values_of_other_variables_do_not_matter(self):
        for atom in ATOMS[:3]:
            self.check(atom, word("a"), {"x": (), "z": (), "Z": ((),)}, atom != ("label", "b", "x"))


if __name__ == "__main__":
    unittest.main()
