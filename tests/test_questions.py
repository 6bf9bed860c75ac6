"""treesays/questions.py: answers, functions, where they fail, and images (points 19 and 20)."""

import random
import unittest

from helper import (
    NO_KINDS, first_with, full_tree, in_order, letter_at, nested, plain_free, plain_holds, plain_paths, plain_text,
    random_atom, random_formula, random_shape, word,
)
from treesays.errors import InvalidKind, InvalidSentence, NoFunction, NoSuchElement, TooLarge
from treesays.meaning import holds
from treesays.questions import answers, failure, image
from treesays.reading import read_formula

A = (1, ("a",))
AB = (1, ("a", "b"))
TREES = (2, ("a", "b"))
TREE_A = (2, ("a",))
TREES_3 = (2, ("a", "b", "c"))

# Below x there is an even number of elements with the label b (in words).
EVEN_B = """
    some X: (all y: all z: (not child 0(y, z) or
        (in(y, X) and (not in(z, X) and label b(z) or in(z, X) and not label b(z)) or
         not in(y, X) and (in(z, X) and label b(z) or not in(z, X) and not label b(z))))
    and all y: (some z: below(y, z) or in(y, X)) and in(x, X))
"""

# Formulas that are functions, or none, in all shapes; with the kinds for which they are such.
FUNCTIONS = [
    ("same(x, y)", "both"), ("top(y) and same(x, x)", "both"),
    ("child 0(y, x) or top(x) and top(y)", "words"),
    ("child 0(y, x) or child 1(y, x) or top(x) and top(y)", "trees"),
    ("child 0(x, y) or same(x, y) and not some z: child 0(x, z)", "both"),
    ("(below(x, y) or same(x, y)) and not some z: below(y, z)", "words"),
    ("(below(x, y) or same(x, y)) and not some z: child 0(y, z) and all z: (not below(x, z) or below(y, z) or "
     "same(y, z) or below(z, y) and some v: (child 0(z, v) and (below(v, y) or same(v, y))) or some v: some w: "
     "(child 0(w, v) and (below(v, y) or same(v, y)) and below(w, z) and not same(v, z) and not below(v, z)))", None),
    ("(below(y, x) or same(x, y)) and label a(y) and all z: (not (below(z, x) or same(z, x)) or not below(y, z) or "
     "not label a(z)) or same(x, y) and all z: (not label a(z) or not below(z, x) and not same(z, x))", "both"),
    ("some X: (in(x, X) and in(y, X) and all z: (not in(z, X) or same(z, x)))", "both"),
]
OTHERS = [
    ("below(x, y)", "a."), ("below(y, x)", "a."), ("top(x) and same(x, y)", "aa."), ("label b(x) and same(x, y)", "a."),
    ("same(x, x) and same(y, y)", "aa."), ("child 0(y, x)", "a."), ("top(y) or same(x, y)", "aa."),
    ("(label b(x) or not top(x)) and same(x, y) or top(x) and label a(x) and top(y)", None),
    ("same(x, y) or label b(x) and below(x, y)", "ba."), ("child 0(x, y) or not some z: below(x, z)", "aa."),
    ("below(x, y) and not some z: below(y, z) or same(x, y) and not some z: below(x, z)", None),
    ("not same(x, y)", "a."),
]


def read(text):
    return read_formula(text)


def plain_answers(question, shape):
    name, = plain_free(question)
    return [path for path in sorted(plain_paths(shape)) if plain_holds(question, shape, {name: path})]


def goals(formula, shape, path):
    """The elements for which a formula holds together with the one at a path as its first one."""
    first, second = sorted(plain_free(formula))
    return [
        other for other in sorted(plain_paths(shape)) if plain_holds(formula, shape, {first: path, second: other})
    ]


def fails(formula, shape):
    return any(len(goals(formula, shape, path)) != 1 for path in plain_paths(shape))


def with_free(random, kind, names, deep):
    """A formula with exactly these free variables."""
    while True:
        formula = random_formula(random, kind, names, [], deep)
        if plain_free(formula) == set(names):
            return formula


class AnswersTest(unittest.TestCase):
    def test_by_hand(self):
        for kind, text, shape, found in [
            (AB, "label b(x)", word("abba"), [(0,), (0, 0)]), (AB, "top(z)", word("ab"), [()]),
            (AB, "some y: below(y, x)", word("aba"), [(0,), (0, 0)]), (AB, "not same(x, x)", word("ab"), []),
            (TREES, "some y: child 1(y, x)", ("a", ("b", (), ("a", (), ())), ("b", (), ())), [(0, 1), (1,)]),
            (TREES, "not some y: below(x, y)", ("a", ("b", (), ("a", (), ())), ("b", (), ())), [(0, 1), (1,)]),
            (AB, read(EVEN_B), word("babab"), [(), (0,), (0, 0, 0, 0)]),
            (AB, "same(x, x)", word("ab"), [(), (0,)]),
        ]:
            formula = read(text) if isinstance(text, str) else text
            self.assertEqual(answers(kind, formula, shape), found, text)

    def test_the_empty_shape(self):
        for kind in (A, TREES):
            for text in ("top(x)", "same(x, x)", "all y: below(x, y)", "some X: in(x, X)"):
                self.assertEqual(answers(kind, read(text), ()), [])

    def test_the_plain_meaning(self):
        numbers = random.Random(130)
        for kind, most in ((AB, 4), (TREES, 4), (A, 4), (TREES_3, 3)):
            found = 0
            for _ in range(100):
                question = with_free(numbers, kind, [numbers.choice(["x", "y", "q1"])], numbers.randrange(1, 6))
                for _ in range(3):
                    shape = random_shape(numbers, kind, numbers.randrange(most + 1))
                    expected = plain_answers(question, shape)
                    self.assertEqual(answers(kind, question, shape), expected, (question, shape))
                    found += len(expected) not in (0, len(plain_paths(shape)))
            self.assertGreater(found, 20)

    def test_questions_with_quantifiers_for_sets(self):
        """Those that speak of all elements from the last one on, in words and trees."""
        even = "some X: (all z: (in(z, X) and not some y: (child 0(z, y) and in(y, X)) or " \
               "not in(z, X) and some y: (child 0(z, y) and in(y, X))) and in(x, X))"
        linked = "all X: (not top(x) and (some y: (top(y) and in(y, X)) or in(x, X) or some y: in(y, X)) or " \
                 "not in(x, X) or some y: (in(y, X) and not below(x, y)))"
        numbers = random.Random(131)
        for kind in (AB, TREES):
            for text in (even, linked, "some X: all X: in(x, X) or some X: (in(x, X) and not some y: in(y, X))"):
                for size in (0, 1, 2, 3, 4):
                    shape = random_shape(numbers, kind, size)
                    self.assertEqual(answers(kind, read(text), shape), plain_answers(read(text), shape))

    def test_many_elements(self):
        letters = "abbab" * 60
        self.assertEqual(answers(AB, read("label b(x)"), word(letters)),
                         [(0,) * k for k, letter in enumerate(letters) if letter == "b"])
        self.assertEqual(
            answers(AB, read(EVEN_B), word(letters)),
            [(0,) * k for k in range(300) if letters[k + 1:].count("b") % 2 == 0],
        )
        numbers = random.Random(132)
        shape = random_shape(numbers, TREES, 120)
        for text in ("label b(x) and not top(x)", "some y: (below(x, y) and label b(y))",
                     "some y: (below(y, x) and label a(y) and some z: (child 1(y, z) and not same(x, z)))"):
            expected = [path for path in sorted(plain_paths(shape)) if holds(read(text), shape, {"x": path})]
            self.assertEqual(answers(TREES, read(text), shape), expected)
            self.assertGreater(len(expected), 5)
        found = answers(A, read("not some y: child 0(x, y)"), word("a" * 3000))
        self.assertEqual(found, [(0,) * 2999])

    def test_the_list_is_new(self):
        first = answers(AB, read("label b(x)"), word("bb"))
        first.clear()
        self.assertEqual(answers(AB, read("label b(x)"), word("bb")), [(), (0,)])

    def test_no_questions(self):
        for kind in (AB, TREES):
            for text in ("true", "some x: label b(x)", "inside(X, X)", "in(x, X)", "below(x, y)", "some x: in(x, X)",
                         "label a(x) and label a(y)", "some X: true"):
                for shape in ((), random_shape(random.Random(133), kind, 3)):
                    self.assertRaises(InvalidSentence, answers, kind, read(text), shape)


class FailureTest(unittest.TestCase):
    def test_functions(self):
        for text, where in FUNCTIONS:
            for kind, name in ((A, "words"), (AB, "words"), (TREE_A, "trees"), (TREES, "trees")):
                if ("'b'" in str(read(text)) and "b" not in kind[1]) or ("child 1" in text and kind[0] == 1):
                    continue
                found = failure(kind, read(text))
                if where in (name, "both"):
                    self.assertIsNone(found, (kind, text))
                elif where is not None:
                    self.assertIsNotNone(found, (kind, text))

    def test_no_functions(self):
        for text, shape in OTHERS:
            found = failure(AB, read(text))
            self.assertEqual(None if found is None else plain_text(found), shape, text)

    def test_trees_by_hand(self):
        for text, shape in [
            ("child 0(x, y) or child 1(x, y) or same(x, y) and not some z: below(x, z)", "a(a(.,.),a(.,.))"),
            ("child 0(x, y) or same(x, y) and not some z: below(x, z)", "a(.,a(.,.))"),
            ("below(x, y) and not some z: below(y, z) or same(x, y) and not some z: below(x, z)", "a(a(.,.),a(.,.))"),
            ("child 1(x, y) or same(x, y) and (label a(x) or not some z: child 1(x, z))", "a(.,a(.,.))"),
            ("child 1(x, y) or same(x, y) and label b(x)", "a(.,.)"),
            ("child 1(x, y) or same(x, y) and not some z: child 1(x, z) or label b(y) and below(x, y)",
             "a(b(.,.),.)"),
        ]:
            self.assertEqual(plain_text(failure(TREES, read(text))), shape, text)

    def test_the_least_shape(self):
        """Against all shapes up to a size, in their order."""
        numbers = random.Random(134)
        for kind, most in ((AB, 4), (TREES, 3), (TREE_A, 4)):
            shapes = in_order(kind, most)
            found = []
            for _ in range(150):
                formula = with_free(numbers, kind, ["x", "y"], numbers.randrange(1, 6))
                if numbers.random() < 0.7:
                    formula = self.nearer(numbers, kind, formula)
                least = failure(kind, formula)
                if least is not None and len(plain_paths(least)) > most:
                    least = None
                self.assertEqual(least, first_with(shapes, lambda shape: fails(formula, shape)), formula)
                found.append(least)
            sizes = {None if shape is None else len(plain_paths(shape)) for shape in found}
            self.assertTrue({None, 1, 2} <= sizes, sizes)

    def nearer(self, numbers, kind, formula):
        """A formula that is a function more often: where something is so, it is one already."""
        test = random_atom(numbers, kind, ["x"], [])
        return ("or", ("and", ("same", "x", "y"), test), ("and", formula, ("not", test)))

    def test_the_names_tell_which_comes_first(self):
        self.assertIsNone(failure(AB, read("same(x, x) and top(y)")))
        self.assertEqual(failure(AB, read("same(y, y) and top(x)")), word("aa"))
        self.assertIsNone(failure(AB, read("same(x, x) and top(x1)")))
        self.assertIsNone(failure(AB, read("top(z) and same(b, b)")))
        self.assertEqual(failure(AB, read("top(b) and same(z, z)")), word("aa"))

    def test_a_long_word(self):
        """The first one with an element that has so many others above it."""
        far = "true"
        for k in range(12):
            here, there = "xz"[k % 2], "zx"[k % 2]
            far = f"some {here}: (child 0({here}, {there}) and {far})"
        formula = read(f"same(x, y) and not {far}")
        self.assertEqual(failure(A, formula), word("a" * 13))
        self.assertEqual(failure(TREES, formula), left_spine(13))

    def test_too_large(self):
        for height, least in ((3, 7), (8, 255), (9, None)):
            formula = read(f"same(x, y) and not ({full_tree(height)})")
            if least is None:
                self.assertRaises(TooLarge, failure, TREE_A, formula)
            else:
                self.assertEqual(len(plain_paths(failure(TREE_A, formula))), least)
        self.assertRaises(TooLarge, failure, AB, ("and", ("same", "x", "y"), letter_at(9)))

    def test_other_free_variables(self):
        for text in ("true", "top(x)", "in(x, X)", "inside(X, Y)", "below(x, y) and top(z)", "some x: some y: below(x, y)",
                     "below(x, y) and in(x, X)", "some y: below(x, y)"):
            for kind in (AB, TREES):
                self.assertRaises(InvalidSentence, failure, kind, read(text))
                self.assertRaises(InvalidSentence, image, kind, read(text), (), ())


def left_spine(height):
    shape = ()
    for _ in range(height):
        shape = ("a", shape, ())
    return shape


class ImageTest(unittest.TestCase):
    def test_by_hand(self):
        tree = ("a", ("b", (), ("a", (), ())), ("b", (), ()))
        parent = "child 0(y, x) or child 1(y, x) or top(x) and top(y)"
        for path, found in (((), ()), ((0,), ()), ((0, 1), (0,)), ((1,), ())):
            self.assertEqual(image(TREES, read(parent), tree, path), found)
        self.assertEqual(image(AB, read("child 0(x, y)"), word("ab"), ()), (0,))
        self.assertEqual(image(AB, read("child 0(y, x)"), word("ab"), (0,)), ())

    def test_the_plain_meaning(self):
        numbers = random.Random(135)
        for kind in (AB, TREES):
            told = missing = 0
            for _ in range(150):
                formula = with_free(numbers, kind, ["p", "q"], numbers.randrange(1, 5))
                shape = random_shape(numbers, kind, numbers.randrange(1, 5))
                for path in plain_paths(shape):
                    expected = goals(formula, shape, path)
                    if len(expected) == 1:
                        self.assertEqual(image(kind, formula, shape, path), expected[0])
                        told += 1
                    else:
                        self.assertRaises(NoFunction, image, kind, formula, shape, path)
                        missing += 1
            self.assertGreater(told, 60)
            self.assertGreater(missing, 60)

    def test_many_elements(self):
        last = read("(below(x, y) or same(x, y)) and not some z: below(y, z)")
        for at in (0, 1, 250, 299):
            self.assertEqual(image(A, last, word("a" * 300), (0,) * at), (0,) * 299)

    def test_no_element(self):
        for path in ((0, 0), (1,), (-1,), (0, -1), (2,)):
            self.assertRaises(NoSuchElement, image, AB, read("child 0(x, y)"), word("ab"), path)
            # It holds for none of the elements that are there.
            self.assertRaises(NoSuchElement, image, AB, read("not same(x, x) and top(y)"), word("ab"), path)
        for kind in (AB, TREES):
            self.assertRaises(NoSuchElement, image, kind, read("same(x, y)"), (), ())

    def test_no_or_several_elements(self):
        self.assertRaises(NoFunction, image, AB, read("child 0(x, y)"), word("ab"), (0,))
        self.assertRaises(NoFunction, image, AB, read("below(x, y)"), word("aab"), ())
        self.assertEqual(image(AB, read("below(x, y)"), word("aab"), (0,)), (0, 0))


class ErrorsTest(unittest.TestCase):
    def refuse(self, error, kind, question, formula):
        self.assertRaises(error, answers, kind, question, ())
        self.assertRaises(error, failure, kind, formula)
        self.assertRaises(error, image, kind, formula, (), (7,))

    def test_the_kind_comes_first(self):
        for kind in NO_KINDS:
            for formula in (("true",), ("label", "q", "x"), ("below", "x", "y"), nested("not", 41)):
                self.refuse(InvalidKind, kind, formula, formula)

    def test_formulas_that_do_not_fit(self):
        same = ("same", "x", "y")
        for wrong in (("label", "c", "x"), ("child", 1, "x", "x"), nested("not", 41, ("top", "x"))):
            self.refuse(InvalidSentence, AB, wrong, ("and", same, wrong))
        self.refuse(InvalidSentence, TREES, ("child", 2, "x", "x"), ("child", 2, "x", "y"))

    def test_too_large_machines(self):
        large = letter_at(9)
        for kind in (AB, TREES):
            self.refuse(TooLarge, kind, ("and", ("top", "x"), large), ("and", ("same", "x", "y"), large))

    def test_free_variables_come_before_too_large(self):
        self.refuse(InvalidSentence, AB, letter_at(9), letter_at(9))


if __name__ == "__main__":
    unittest.main()
