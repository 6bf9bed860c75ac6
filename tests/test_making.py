"""treesays/making.py: cores and machines of formulas (points 13 and 14)."""

import itertools
import random
import unittest

from helper import (
    ATOMS, NO_KINDS, letter_at, meant, nested, plain_free, plain_inner, plain_least, plain_mark, plain_paths,
    plain_shapes, random_formula, random_sets, random_shape, subsets, word,
)
from treesays.atoms import atom_machine
from treesays.errors import InvalidKind, InvalidSentence, TooLarge
from treesays.formulas import depth
from treesays.machines import accepts, is_machine
from treesays.making import core, machine_of
from treesays.reading import read_formula

A = (1, ("a",))
AB = (1, ("a", "b"))
TREES = (2, ("a", "b"))
TREE_A = (2, ("a",))

FORMULAS = """
    not label a(x) | not below(x, y) | not in(x, X) | not inside(X, Y) | not true | not same(x, x)
    label a(x) and label b(y) | label a(x) and top(x) | label a(x) and label b(x) | below(x, y) and in(y, X)
    below(x, y) and below(y, z) | in(x, X) and inside(X, Y) | top(y) and label a(x) | true and top(x)
    label a(x) or label b(y) | top(x) or label b(x) | below(x, y) or in(y, X) | in(x, X) or inside(X, Y)
    below(x, y) or same(y, z) | true or top(x) | top(z) or child 0(x, y) | inside(X, Y) or inside(Y, X)
    some x: label a(x) | some x: below(x, y) | some y: child 0(x, y) | some x: in(x, X) | some x: true
    some x: top(y) | some x: inside(X, Y) | some x: some x: label b(x) | some x: (top(y) and in(y, X))
    all x: label a(x) | all x: (below(y, x) or same(x, y)) | all x: in(x, X) | all x: not true | all x: top(y)
    all x: (in(x, X) or not in(x, Y)) | all x: all x: label a(x) | all y: (not below(x, y) or label b(y))
    some X: in(x, X) | some X: not inside(X, Y) | some X: true | some X: top(x) | some X: inside(Y, Y)
    some X: (inside(X, Y) and some x: in(x, X)) | some X: some X: some x: in(x, X)
    all X: in(x, X) | all X: inside(X, Y) | all X: not true | all X: top(x) | all X: (in(x, X) or in(y, X))
    all X: (not in(x, X) or in(y, X)) | all X: all X: inside(X, X)
    some x: (label a(x) and some x: label b(x)) | some x: label a(x) and label b(x) | top(x) or all x: top(x)
    some X: (in(x, X) and some X: not in(x, X)) | in(x, X) and not some X: in(x, X)
    all x: some y: (below(x, y) or top(x)) | some x: all y: (same(x, y) or below(y, x))
    some X: all x: ((not top(x) or in(x, X)) and all y: (not child 0(x, y) or (in(x, X) and not in(y, X))))
"""


def formulas(kind):
    texts = [text for line in FORMULAS.strip().splitlines() for text in line.split("|")]
    more = ["some y: child 1(x, y)", "child 0(x, y) or child 1(x, y)", "not some x: child 1(x, x)"]
    return [read_formula(text) for text in texts + (more if kind[0] == 2 else [])]


def words_in(formula):
    return {formula[0]}.union(*[words_in(part) for part in plain_inner(formula)])


class CoreTest(unittest.TestCase):
    def test_by_hand(self):
        f = ("label", "a", "x")
        self.assertEqual(core(("all", "x", f)), ("not", ("some", "x", ("not", f))))
        self.assertEqual(core(("allset", "X", f)), ("not", ("someset", "X", ("not", f))))
        self.assertEqual(core(("all", "x", ("not", f))), ("not", ("some", "x", ("not", ("not", f)))))
        self.assertEqual(
            core(("all", "x", ("allset", "Y", f))),
            ("not", ("some", "x", ("not", ("not", ("someset", "Y", ("not", f)))))),
        )

    def test_deep_inside(self):
        f = ("all", "y", ("true",))
        g = ("not", ("some", "y", ("not", ("true",))))
        for around in (
            lambda f: ("not", f), lambda f: ("and", f, ("true",)), lambda f: ("and", ("true",), f),
            lambda f: ("or", f, ("top", "x")), lambda f: ("or", ("top", "x"), f), lambda f: ("some", "x", f),
            lambda f: ("someset", "X", f), lambda f: ("and", ("not", f), ("or", ("not", ("some", "x", f)), f)),
        ):
            self.assertEqual(core(around(f)), around(g))
            self.assertEqual(core(around(around(f))), around(around(g)))

    def test_what_else_stands_there_stays(self):
        for formula in (*ATOMS, ("not", ("not", ("true",))), ("and", ("or", *ATOMS[1:3]), ("not", ATOMS[4])),
                        ("some", "x", ("someset", "X", ("not", ("in", "x", "X"))))):
            self.assertEqual(core(formula), formula)

    def test_random_formulas(self):
        numbers = random.Random(80)
        for _ in range(300):
            formula = random_formula(numbers, TREES, ["x"], ["X"], numbers.randrange(1, 7))
            found = core(formula)
            self.assertLessEqual(words_in(found) & {"all", "allset"}, set())
            self.assertEqual(core(found), found)
            self.assertEqual(plain_free(found), plain_free(formula))
            if not words_in(formula) & {"all", "allset"}:
                self.assertEqual(found, formula)

    def test_deep_formulas(self):
        self.assertEqual(depth(core(nested("all", 40))), 3 * 39 + 1)
        self.assertEqual(depth(core(nested("allset", 5000))), 3 * 4999 + 1)


class MachineOfTest(unittest.TestCase):
    def check_least(self, kind, formula, machine):
        self.assertTrue(is_machine(machine))
        self.assertEqual(machine[:2], (kind, len(plain_free(formula))))
        self.assertEqual(machine, plain_least(machine))

    def check_small(self, kind, formula, most):
        """All marked shapes up to a size, with any numbers of marks on each track."""
        machine = machine_of(kind, formula)
        self.check_least(kind, formula, machine)
        for size in range(most + 1):
            for shape in plain_shapes(kind[0], kind[1], size):
                choices = subsets(sorted(plain_paths(shape)))
                for sets in itertools.product(choices, repeat=machine[1]):
                    self.assertIs(accepts(machine, plain_mark(shape, sets)), meant(formula, shape, sets),
                                  (kind, formula, shape, sets))

    def test_small_shapes(self):
        for kind, most in ((AB, 3), (TREES, 2), (TREE_A, 3)):
            for formula in formulas(kind):
                if "b" in kind[1] or "'b'" not in str(formula):
                    self.check_small(kind, formula, most if len(plain_free(formula)) < 3 else 2)

    def test_larger_shapes(self):
        numbers = random.Random(81)
        for kind in (AB, TREES):
            for formula in formulas(kind):
                machine = machine_of(kind, formula)
                for _ in range(12):
                    shape = random_shape(numbers, kind, numbers.randrange(3, 6))
                    sets = random_sets(numbers, shape, sorted(plain_free(formula)))
                    self.assertIs(accepts(machine, plain_mark(shape, sets)), meant(formula, shape, sets))

    def test_random_formulas(self):
        numbers = random.Random(82)
        for _ in range(400):
            kind = numbers.choice((AB, TREES, (1, ("c", "q", "z"))))
            free = numbers.choice([([], []), (["x"], []), (["u", "x"], []), (["x"], ["X"]), ([], ["U", "X"])])
            formula = random_formula(numbers, kind, *free, numbers.randrange(2, 6))
            self.check_small(kind, formula, 2 if len(plain_free(formula)) < 2 else 1)
            machine = machine_of(kind, formula)
            for _ in range(5):
                shape = random_shape(numbers, kind, 3)
                sets = random_sets(numbers, shape, sorted(plain_free(formula)))
                self.assertIs(accepts(machine, plain_mark(shape, sets)), meant(formula, shape, sets))

    def test_the_core_has_the_same_machine(self):
        for kind in (AB, TREES):
            for formula in formulas(kind):
                self.assertEqual(machine_of(kind, core(formula)), machine_of(kind, formula))

    def test_atoms(self):
        for atom in ATOMS:
            self.assertEqual(machine_of(TREES, atom), atom_machine(TREES, atom))

    def test_formulas_that_mean_the_same_have_the_same_machine(self):
        for kind in (AB, TREES):
            for one, other in [
                ("not not label a(x)", "label a(x)"), ("label a(x)", "not label b(x)"),
                ("top(x)", "not some y: below(y, x)"), ("same(x, y)", "all X: (not in(x, X) or in(y, X))"),
                ("in(x, X) and in(y, X)", "in(y, X) and in(x, X)"), ("some x: some y: below(x, y)",
                                                                  "some x: not top(x)"),
                ("all x: not true", "not some x: true"), ("inside(X, Y)", "all x: (in(x, Y) or not in(x, X))"),
                ("some X: all x: in(x, X)", "true"),
            ]:
                self.assertEqual(machine_of(kind, read_formula(one)), machine_of(kind, read_formula(other)))

    def test_true_of_a_variable_still_asks_for_one_mark(self):
        for formula in (("or", ("true",), ("top", "x")), ("not", ("below", "x", "x"))):
            machine = machine_of(A, formula)
            for marks, truth in (("", False), ("0", False), ("1", True), ("01", True), ("11", False), ("101", False)):
                marked = word([("a", (int(mark),)) for mark in marks])
                self.assertIs(accepts(machine, marked), truth)

    def test_six_free_variables(self):
        chain = read_formula("below(u, v) and below(v, w) and below(w, x) and below(x, y) and below(y, z)")
        sets = read_formula("inside(U, V) and inside(V, W) or inside(X, Y) and not inside(Y, Z)")
        mixed = read_formula("in(x, X) and in(y, Y) and not in(z, Z)")
        numbers = random.Random(83)
        for kind in (AB, TREES):
            for formula in (chain, sets, mixed, ("not", chain)):
                machine = machine_of(kind, formula)
                self.check_least(kind, formula, machine)
                for _ in range(100):
                    shape = random_shape(numbers, kind, numbers.randrange(7))
                    sets_of_marks = random_sets(numbers, shape, sorted(plain_free(formula)))
                    self.assertIs(accepts(machine, plain_mark(shape, sets_of_marks)),
                                  meant(formula, shape, sets_of_marks))
        straight = plain_mark(word("aaaaaa"), [[(0,) * k] for k in range(6)])
        self.assertIs(accepts(machine_of(AB, chain), straight), True)
        self.assertIs(accepts(machine_of(AB, ("not", chain)), straight), False)

    def test_what_cannot_be_accepted_any_more_is_one_state_on_the_way(self):
        """There would be more than 300 states with all counts of what one half does not accept any more."""
        half = "not child 0({0}, {1}) and not child 0({1}, {2}) and not child 0({2}, {0})"
        half = half + " and not (label a({0}) and label b({2}))"
        other = "not child 0({0}, {1}) and not child 0({1}, {2}) and not same({2}, {0})"
        for one, two in ((half, other), (other, half)):
            formula = ("and", read_formula(one.format(*"uvw")), read_formula(two.format(*"xyz")))
            machine = machine_of(AB, formula)
            self.assertEqual(len(machine[3]), 265)
            self.assertEqual(machine, plain_least(machine))
            numbers = random.Random(84)
            truths = []
            for _ in range(500):
                shape = random_shape(numbers, AB, numbers.randrange(2, 9))
                sets = random_sets(numbers, shape, list("uvwxyz"))
                truths.append(meant(formula, shape, sets))
                self.assertIs(accepts(machine, plain_mark(shape, sets)), truths[-1])
            self.assertGreater(sum(truths), 30)

    def test_what_one_child_settles_and_the_other_does_not(self):
        """The end of the way of first children, or of second ones, has a b; what is aside does not matter."""
        for k in (0, 1):
            way = f"all z: (not below(z, x) and not same(z, x) or top(z) or some w: child {k}(w, z))"
            end = f"some x: (label b(x) and not some y: child {k}(x, y) and {way})"
            formula = read_formula(f"{end} and some x: label a(x)")
            self.check_small(TREES, formula, 3)
            self.check_small(TREES, ("and", formula[2], formula[1]), 3)
            self.check_small(TREES, ("or", formula[2], formula[1]), 2)

    def test_forty_deep(self):
        for around in ("not", "and", "or", "some", "all", "someset", "allset"):
            machine = machine_of(AB, nested(around, 40))
            self.assertEqual(machine, plain_least(machine))
            self.assertIs(accepts(machine, plain_mark(word("ab"), [])), around != "not")
            self.assertIs(accepts(machine, ()), around not in ("not", "some"))

    def test_the_machine_knows_far_letters(self):
        for distance in range(7):
            for label in "ab":
                machine = machine_of(AB, letter_at(distance, label))
                self.assertEqual(len(machine[3]), 2 << distance)
                for letters in ("ab" * 6, "ba" * 6, "a" * distance, "b" * (distance + 1)):
                    self.assertIs(accepts(machine, plain_mark(word(letters), [])),
                                  letters[distance:distance + 1] == label)


class ErrorsTest(unittest.TestCase):
    def test_the_kind_comes_first(self):
        for kind in NO_KINDS:
            for formula in (("true",), ("label", "q", "x"), nested("not", 41), letter_at(12)):
                self.assertRaises(InvalidKind, machine_of, kind, formula)

    def test_formulas_that_do_not_fit(self):
        for kind, formula in [
            (AB, ("some", "x", ("label", "c", "x"))), (AB, ("child", 1, "x", "y")),
            (TREES, ("not", ("child", 2, "x", "y"))), (AB, nested("not", 41)), (AB, nested("and", 5000)),
            (AB, read_formula("below(a, b) and below(c, d) and below(e, f) and top(g)")),
            (AB, read_formula("some a: (below(a, b) and below(c, d) and below(e, f) and top(g))")),
        ]:
            self.assertRaises(InvalidSentence, machine_of, kind, formula)

    def test_a_formula_that_does_not_fit_comes_before_too_large(self):
        for wrong in (("label", "c", "x"), ("child", 1, "x", "x")):
            self.assertRaises(InvalidSentence, machine_of, AB, ("and", letter_at(10), ("some", "x", wrong)))
            self.assertRaises(InvalidSentence, machine_of, AB, ("and", ("some", "x", wrong), letter_at(10)))

    def test_too_large(self):
        for kind in (AB, (1, ("a", "b", "c")), TREES):
            self.assertEqual(len(machine_of(kind, letter_at(7))[3]), 256)
            self.assertRaises(TooLarge, machine_of, kind, letter_at(8))
            self.assertRaises(TooLarge, machine_of, kind, letter_at(11))
            # Also where the whole formula has a small machine.
            self.assertRaises(TooLarge, machine_of, kind, ("and", ("not", ("true",)), letter_at(9)))
            self.assertRaises(TooLarge, machine_of, kind, ("allset", "X", ("or", ("true",), letter_at(9))))


if __name__ == "__main__":
    unittest.main()
