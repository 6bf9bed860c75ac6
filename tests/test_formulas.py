"""treesays/formulas.py: free variables, depth, and what fits a kind (points 6 and 7)."""

import random
import unittest

from helper import ATOMS, KINDS, NO_KINDS, nested, plain_free, plain_inner, random_formula
from treesays.errors import InvalidKind, InvalidSentence, SayError
from treesays.formulas import check_formula, check_sentence, depth, free_variables

A = (1, ("a",))
AB = (1, ("a", "b"))
TREES = (2, ("a", "b"))
WORDS_AROUND = ("not", "and", "or", "some", "all", "someset", "allset")


def marked_all(names):
    """A formula that is not deep, in which these variables are free."""
    parts = [("top", name) if name[0].islower() else ("inside", name, name) for name in names]
    while len(parts) > 1:
        parts = [("and", *parts[at:at + 2]) if parts[at + 1:] else parts[at] for at in range(0, len(parts), 2)]
    return parts[0]


def plain_depth(formula):
    return 1 + max([plain_depth(part) for part in plain_inner(formula)], default=0)


class FreeVariablesTest(unittest.TestCase):
    def check(self, formula, names):
        self.assertEqual(free_variables(formula), names)

    def test_atoms(self):
        self.check(("true",), [])
        self.check(("label", "a", "x"), ["x"])
        self.check(("label", "x", "y"), ["y"])
        self.check(("child", 0, "y", "x"), ["x", "y"])
        self.check(("child", 1, "y", "y"), ["y"])
        self.check(("below", "b", "a"), ["a", "b"])
        self.check(("same", "x", "x"), ["x"])
        self.check(("top", "x"), ["x"])
        self.check(("in", "x", "X"), ["X", "x"])
        self.check(("inside", "Y", "X"), ["X", "Y"])

    def test_ascending_order_is_that_of_strings(self):
        names = ["Z", "a", "x1", "x", "X", "xY", "x10", "x2", "A9"]
        self.check(marked_all(names), ["A9", "X", "Z", "a", "x", "x1", "x10", "x2", "xY"])

    def test_quantifiers(self):
        for word in ("some", "all"):
            self.check((word, "x", ("below", "x", "y")), ["y"])
            self.check((word, "z", ("below", "x", "y")), ["x", "y"])
            self.check((word, "x", ("in", "x", "X")), ["X"])
        for word in ("someset", "allset"):
            self.check((word, "X", ("in", "x", "X")), ["x"])
            self.check((word, "Y", ("in", "x", "X")), ["X", "x"])

    def test_bound_and_free(self):
        bound = ("some", "x", ("top", "x"))
        self.check(("and", bound, ("top", "x")), ["x"])
        self.check(("or", ("top", "x"), bound), ["x"])
        self.check(("and", bound, ("not", bound)), [])
        self.check(("some", "y", ("and", bound, ("below", "x", "y"))), ["x"])

    def test_bound_twice(self):
        self.check(("some", "x", ("and", ("top", "x"), ("all", "x", ("top", "x")))), [])
        self.check(("some", "x", ("some", "x", ("below", "x", "y"))), ["y"])

    def test_random_formulas(self):
        numbers = random.Random(40)
        for _ in range(500):
            formula = random_formula(numbers, TREES, ["u", "x", "y"], ["U", "X"], numbers.randrange(1, 6))
            self.check(formula, sorted(plain_free(formula)))

    def test_the_list_is_new(self):
        for formula in (("top", "x"), ("and", ("top", "x"), ("top", "x")), ("some", "y", ("top", "x"))):
            free_variables(formula).append("y")
            self.check(formula, ["x"])

    def test_far_deeper_formulas(self):
        for word in WORDS_AROUND:
            self.check(nested(word, 20000, ("below", "u", "v")), ["u", "v"])


class DepthTest(unittest.TestCase):
    def test_atoms_are_one_deep(self):
        for atom in ATOMS:
            self.assertEqual(depth(atom), 1)

    def test_by_hand(self):
        self.assertEqual(depth(("not", ("true",))), 2)
        self.assertEqual(depth(("and", ("true",), ("not", ("not", ("true",))))), 4)
        self.assertEqual(depth(("or", ("some", "x", ("not", ("top", "x"))), ("true",))), 4)

    def test_nested(self):
        for word in WORDS_AROUND:
            for deep in (1, 2, 7, 40, 41, 20000):
                self.assertEqual(depth(nested(word, deep)), deep)

    def test_random_formulas(self):
        numbers = random.Random(41)
        for _ in range(300):
            formula = random_formula(numbers, TREES, ["x"], ["X"], numbers.randrange(1, 7))
            self.assertEqual(depth(formula), plain_depth(formula))


class CheckFormulaTest(unittest.TestCase):
    def refuse(self, kind, formula):
        for check in (check_formula, check_sentence):
            with self.assertRaises(InvalidSentence) as caught:
                check(kind, formula)
            self.assertIs(type(caught.exception).__bases__[0], SayError)

    def accept(self, kind, formula):
        self.assertIsNone(check_formula(kind, formula))

    def test_what_fits(self):
        for atom in ATOMS:
            self.accept(TREES, atom)
            if atom[0] != "child" or atom[1] == 0:
                self.accept(AB, atom)
        self.accept((1, ("k", "z")), ("all", "k", ("or", ("label", "z", "k"), ("label", "k", "k"))))

    def test_the_kind_comes_first(self):
        wrong = [("true",), ("label", "q", "x"), ("top", "x"), nested("not", 50), nested("and", 20000)]
        for kind in NO_KINDS:
            for formula in wrong:
                self.assertRaises(InvalidKind, check_formula, kind, formula)
                self.assertRaises(InvalidKind, check_sentence, kind, formula)

    def test_labels(self):
        for kind in KINDS:
            for label in ("a", "b", "c", "x", "z", "k", "q"):
                for around in (lambda atom: atom, lambda atom: ("and", ("true",), ("all", "y", ("not", atom)))):
                    formula = ("some", "x", around(("label", label, "x")))
                    if label in kind[1]:
                        self.accept(kind, formula)
                        self.assertIsNone(check_sentence(kind, formula))
                    else:
                        self.refuse(kind, formula)

    def test_more_labels_that_are_none(self):
        for label in ("", "ab", "A", "x", "\u00e9"):
            self.refuse(AB, ("some", "x", ("label", label, "x")))

    def test_numbers_of_children(self):
        for k in (-1, 1, 2):
            self.refuse(AB, ("some", "x", ("child", k, "x", "x")))
            self.refuse(A, ("not", ("some", "x", ("or", ("true",), ("child", k, "x", "x")))))
        for k in (-1, 2, 3):
            self.refuse(TREES, ("some", "x", ("child", k, "x", "x")))

    def test_six_and_seven_free_variables(self):
        for names in (["a", "b", "c", "d", "e", "f", "g"], ["A", "B", "C", "D", "E", "F", "G"],
                      ["A", "b", "C", "d", "E", "f", "G"], ["x", "x1", "x2", "x3", "x4", "x5", "x6"]):
            six, seven = marked_all(names[:6]), marked_all(names)
            self.accept(AB, six)
            self.refuse(AB, seven)
            self.refuse(TREES, ("and", seven, ("true",)))
            for name in names:
                word = "all" if name[0].islower() else "allset"
                self.refuse(AB, (word, name, ("not", seven)))

    def test_seven_in_an_inner_part_that_are_bound_further_out(self):
        names = ["a", "b", "c", "d", "e", "f", "g"]
        formula = marked_all(names)
        for name in names:
            formula = ("some", name, formula)
        self.assertEqual(free_variables(formula), [])
        self.refuse(AB, formula)
        self.refuse(AB, ("or", ("true",), formula))

    def test_many_different_variables_of_which_six_are_free_together(self):
        formula = marked_all(["a", "b", "c", "d", "e", "f"])
        for name in "abcdef":
            formula = ("some", name, formula)
        other = ("all", "g", ("allset", "G", ("in", "g", "G")))
        self.assertIsNone(check_sentence(AB, ("and", formula, other)))
        twice = ("and", marked_all(["a", "b", "c", "a", "b", "c", "d"]), ("below", "e", "f"))
        self.accept(AB, twice)

    def test_forty_and_more_deep(self):
        for word in WORDS_AROUND:
            for deep in (1, 39, 40):
                self.assertIsNone(check_sentence(AB, nested(word, deep)))
            for deep in (41, 42, 100, 20000):
                self.refuse(AB, nested(word, deep))
        mixed = nested("or", 20, nested("some", 21, ("top", "x")))
        self.assertEqual(depth(mixed), 40)
        self.assertIsNone(check_sentence(AB, mixed))
        self.refuse(AB, ("not", mixed))

    def test_free_variables_of_sentences(self):
        for formula in (("top", "x"), ("inside", "X", "X"), ("some", "x", ("in", "x", "X")),
                        ("and", ("some", "x", ("top", "x")), ("top", "x"))):
            self.accept(AB, formula)
            self.assertRaises(InvalidSentence, check_sentence, AB, formula)
        self.assertIsNone(check_sentence(AB, ("someset", "X", ("some", "x", ("in", "x", "X")))))


if __name__ == "__main__":
    unittest.main()
