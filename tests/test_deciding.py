"""treesays/deciding.py: models, what is always so, where sentences part, and equal formulas (points 16 and 17)."""

import random
import unittest

from helper import (
    NO_KINDS, first_with, full_tree, in_order, letter_at, nested, plain_holds, plain_paths, plain_text,
    random_formula, word,
)
from treesays.deciding import equal, is_always, least_model, least_parting
from treesays.errors import InvalidKind, InvalidSentence, TooLarge
from treesays.making import core
from treesays.reading import read_formula

A = (1, ("a",))
AB = (1, ("a", "b"))
TREES = (2, ("a", "b"))
TREE_A = (2, ("a",))


def read(text):
    return read_formula(text)


def bits(name, number, many):
    """The element is in the sets B0, B1 .. as the bits of a number tell."""
    return " and ".join(("" if number >> k & 1 else "not ") + f"in({name}, B{k})" for k in range(many))


def multiple(number, many):
    """The length of a word is a multiple of a number, of so many bits; the last letter has the number 1."""
    steps = " or ".join(f"({bits('y', k, many)} and {bits('x', (k + 1) % number, many)})" for k in range(number))
    text = (f"(all x: (some y: child 0(x, y) or {bits('x', 1 % number, many)}) and "
            f"all x: all y: (not child 0(x, y) or {steps}) and all x: (not top(x) or {bits('x', 0, many)}))")
    return "".join(f"some B{k}: " for k in range(many)) + text


def full(height):
    shape = ()
    for _ in range(height):
        shape = ("a", shape, shape)
    return shape


class LeastModelTest(unittest.TestCase):
    def check(self, kind, text, text_of_model):
        found = least_model(kind, read(text))
        self.assertEqual(None if found is None else plain_text(found), text_of_model)

    def test_the_example(self):
        self.assertEqual(
            least_model(AB, read("some x: (label b(x) and some y: below(y, x))")), ("a", ("b", ()))
        )

    def test_words(self):
        self.check(AB, "some x: true", "a.")
        self.check(AB, "some x: label b(x)", "b.")
        self.check(AB, "some x: label b(x) and some x: label a(x)", "ab.")
        self.check(AB, "some x: some y: (label b(x) and label a(y) and below(x, y))", "ba.")
        self.check(AB, "some x: some y: some z: (below(x, y) and below(y, z) and label b(y))", "aba.")
        self.check((1, ("c", "k", "z")), "some x: (not label c(x) and not top(x))", "ck.")

    def test_trees(self):
        self.check(TREES, "some x: true", "a(.,.)")
        self.check(TREES, "some x: (not top(x) and label b(x))", "a(.,b(.,.))")
        self.check(TREES, "some x: some y: (child 0(x, y) and label b(y))", "a(b(.,.),.)")
        self.check(TREES, "some x: some y: (child 0(x, y) and some z: (child 1(x, z) and label b(x)))",
                   "b(a(.,.),a(.,.))")
        self.check(TREES, "some x: some y: some z: (below(x, y) and below(y, z))", "a(.,a(.,a(.,.)))")
        self.check(TREES, "some x: some y: (not same(x, y) and not below(x, y) and not below(y, x))",
                   "a(a(.,.),a(.,.))")

    def test_the_empty_shape(self):
        for kind in (AB, TREES):
            for text in ("true", "all x: label b(x)", "not some x: true", "some X: all x: not in(x, X)"):
                self.assertEqual(least_model(kind, read(text)), ())

    def test_no_model(self):
        for kind in (AB, TREES):
            for text in ("not true", "some x: below(x, x)", "some x: (label a(x) and label b(x))",
                         "all x: not true and some x: true", "some x: all y: below(y, x)"):
                self.assertIsNone(least_model(kind, read(text)))

    def test_small_models(self):
        """Against all shapes up to a size, also where several of one size are models."""
        numbers = random.Random(110)
        for kind, most in ((AB, 4), (TREES, 3), ((1, ("k", "m", "z")), 3)):
            shapes = in_order(kind, most)
            found = []
            for _ in range(250):
                sentence = random_formula(numbers, kind, [], [], numbers.randrange(2, 6))
                if numbers.random() < 0.5:
                    sentence = ("and", ("some", "x", ("not", ("top", "x"))), sentence)
                model = least_model(kind, sentence)
                if model is None or len(plain_paths(model)) > most:
                    model = None
                self.assertEqual(model, first_with(shapes, lambda shape: plain_holds(sentence, shape, {})), sentence)
                found.append(model)
            self.assertGreater(len({plain_text(model) for model in found if model}), 3)
            self.assertIn(None, found)
            self.assertIn((), found)

    def test_the_first_one_of_several_of_the_same_size(self):
        for kind, text, model in [
            (AB, "some x: some y: (child 0(x, y) and (label a(x) or label b(x)))", "aa."),
            (AB, "some x: (label b(x) and not top(x)) or some x: some y: (label b(x) and below(x, y))", "ab."),
            (TREES, "some x: some y: below(x, y)", "a(.,a(.,.))"),
            (TREES, "some x: some y: below(x, y) and some x: label b(x)", "a(.,b(.,.))"),
            (TREES, "some x: some y: (child 0(x, y) and some z: below(y, z))", "a(a(.,a(.,.)),.)"),
            (TREES, "some x: (label b(x) and some y: child 1(x, y)) or some x: some y: (child 0(x, y) and label b(x))",
             "b(.,a(.,.))"),
            (TREES, "some x: some y: some z: (child 1(x, y) and child 0(y, z) or child 0(x, y) and child 1(y, z))",
             "a(.,a(a(.,.),.))"),
        ]:
            self.check(kind, text, model)

    def test_models_with_many_elements(self):
        for kind in (A, AB):
            sentence = read("some x: true and " + multiple(12, 4) + " and " + multiple(7, 3))
            self.assertEqual(least_model(kind, sentence), word("a" * 84))
        sentence = read("some x: label b(x) and some x: true and " + multiple(11, 4) + " and " + multiple(5, 3))
        self.assertEqual(least_model(AB, sentence), word("a" * 54 + "b"))
        for height in (1, 2, 5, 8):
            sentence = read(f"some x: (top(x) and {full_tree(height)})")
            self.assertEqual(least_model(TREE_A, sentence), full(height))

    def test_too_large_models(self):
        sentence = read(f"some x: (top(x) and {full_tree(9)})")
        for kind in (TREE_A, TREES):
            self.assertRaises(TooLarge, least_model, kind, sentence)
            self.assertIs(is_always(kind, sentence), False)
        self.assertIs(equal(TREE_A, sentence, sentence), True)

    def test_four_hundred_elements_and_one_more(self):
        """Full trees of 255, 127 and 15 elements, with one element above each, and one beside the last one."""
        last = f"some y: (child 0(x, y) and ({full_tree(4, 'y')}))"
        for more, truth in (("true", True), ("some y: child 1(x, y)", False)):
            below = f"some x: (child 1(y, x) and {last} and {more})"
            below = f"some y: (child 1(x, y) and some x: (child 0(y, x) and ({full_tree(7, 'x')})) and {below})"
            sentence = read(f"some x: (top(x) and some y: (child 0(x, y) and ({full_tree(8, 'y')})) and {below})")
            if truth:
                model = least_model(TREE_A, sentence)
                self.assertEqual(model, ("a", full(8), ("a", full(7), ("a", full(4), ()))))
                self.assertEqual(len(plain_paths(model)), 400)
                self.assertEqual(least_parting(TREE_A, ("not", ("true",)), sentence), model)
            else:
                self.assertRaises(TooLarge, least_model, TREE_A, sentence)
                self.assertRaises(TooLarge, least_parting, TREE_A, ("not", ("true",)), sentence)


class AlwaysTest(unittest.TestCase):
    def test_by_hand(self):
        for kind in (AB, TREES):
            for text in ("true", "all x: (label a(x) or label b(x))", "not some x: below(x, x)",
                         "all x: (top(x) or some y: below(y, x))", "all X: some Y: inside(X, Y)",
                         "all x: all y: (not below(x, y) or not below(y, x))", "some X: all x: in(x, X)"):
                self.assertIs(is_always(kind, read(text)), True)
                self.assertIs(is_always(kind, ("not", read(text))), False)
            for text in ("some x: true", "all x: label a(x)", "all x: not true", "all x: top(x)",
                         "some X: some x: in(x, X)"):
                self.assertIs(is_always(kind, read(text)), False)
        # In words each element but the last one has a child; in trees not so.
        text = read("all x: all y: (not below(x, y) or some z: child 0(x, z))")
        self.assertIs(is_always(AB, text), True)
        self.assertIs(is_always(TREES, text), False)
        self.assertIs(is_always(A, read("all x: label a(x)")), True)

    def test_it_agrees_with_the_least_model_of_the_negation(self):
        numbers = random.Random(111)
        always = 0
        for kind in (A, AB, TREES):
            for _ in range(150):
                sentence = random_formula(numbers, kind, [], [], numbers.randrange(2, 6))
                found = is_always(kind, sentence)
                self.assertIs(found, least_model(kind, ("not", sentence)) is None)
                self.assertIs(is_always(kind, ("or", sentence, ("not", sentence))), True)
                always += found
        self.assertGreater(always, 30)
        self.assertLess(always, 420)


class LeastPartingTest(unittest.TestCase):
    def test_by_hand(self):
        for kind, first, second, text in [
            (AB, "true", "not true", "."), (AB, "some x: label a(x)", "some x: true", "b."),
            (AB, "all x: label a(x)", "all x: (top(x) or label a(x))", "b."),
            (AB, "all x: label a(x)", "all x: (label a(x) or some y: below(y, x))", "ab."),
            (AB, "all x: label a(x)", "all x: (label a(x) or not top(x))", "ab."),
            (AB, "some x: some y: child 0(x, y)", "some x: some y: below(x, y)", None),
            (TREES, "some x: some y: child 0(x, y)", "some x: some y: below(x, y)", "a(.,a(.,.))"),
            (TREES, "some x: true", "not all x: not true", None),
            (TREES, "true", "all x: not some y: (child 0(x, y) and label b(y))", "a(b(.,.),.)"),
        ]:
            for one, other in ((first, second), (second, first)):
                found = least_parting(kind, read(one), read(other))
                self.assertEqual(None if found is None else plain_text(found), text)

    def test_small_shapes(self):
        numbers = random.Random(112)
        for kind, most in ((AB, 4), (TREES, 3)):
            shapes = in_order(kind, most)
            sizes = []
            for _ in range(250):
                one, other = [random_formula(numbers, kind, [], [], numbers.randrange(2, 5)) for _ in range(2)]
                found = least_parting(kind, one, other)
                self.assertEqual(least_parting(kind, other, one), found)
                self.assertIs(found is None, equal(kind, one, other))
                if found is None or len(plain_paths(found)) > most:
                    found = None
                expected = first_with(
                    shapes, lambda shape: plain_holds(one, shape, {}) != plain_holds(other, shape, {})
                )
                self.assertEqual(found, expected, (one, other))
                sizes.append(None if found is None else len(plain_paths(found)))
            self.assertTrue({None, 0, 1, 2} <= set(sizes), set(sizes))

    def test_it_is_the_least_model_where_the_other_sentence_is_never_so(self):
        never = ("not", ("true",))
        for kind in (AB, TREES):
            for text in ("some x: (label b(x) and not top(x))", "some x: some y: below(x, y)", "some x: below(x, x)"):
                self.assertEqual(least_parting(kind, read(text), never), least_model(kind, read(text)))

    def test_many_elements(self):
        self.assertEqual(least_parting(A, read(multiple(11, 4)), read("all x: not true")), word("a" * 11))
        self.assertEqual(least_parting(A, read(multiple(6, 3)), read(multiple(2, 1) + " and " + multiple(3, 2))), None)
        self.assertEqual(least_parting(A, read(multiple(9, 4)), read(multiple(3, 2))), word("aaa"))

    def test_too_large(self):
        sentence = read(f"some x: (top(x) and {full_tree(9)})")
        self.assertRaises(TooLarge, least_parting, TREE_A, sentence, read("not true"))
        self.assertRaises(TooLarge, least_parting, TREE_A, read("not true"), sentence)
        self.assertIsNone(least_parting(TREE_A, sentence, sentence))

    def test_sentences_nested_forty_deep(self):
        for kind in (AB, TREES):
            for around in ("not", "and", "or", "some", "all", "someset", "allset"):
                deep = nested(around, 40)
                self.assertIsNone(least_parting(kind, deep, deep))
                part = {"not": (), "some": ()}.get(around)
                self.assertEqual(least_parting(kind, deep, ("true",)), part)
                self.assertIs(is_always(kind, deep), part is None)
                self.assertIs(equal(kind, deep, ("true",)), part is None)


class EqualTest(unittest.TestCase):
    def test_by_hand(self):
        for kind in (AB, TREES):
            for one, other, truth in [
                ("label a(x)", "not label b(x)", True), ("label a(x)", "label b(x)", False),
                ("below(x, y)", "below(y, x)", False), ("top(x)", "not some y: below(y, x)", True),
                ("inside(X, Y) and inside(Y, X)",
                 "all x: (in(x, X) and in(x, Y) or not in(x, X) and not in(x, Y))", True),
                ("some x: some y: below(x, y)", "some x: not top(x)", True), ("true", "some X: true", True),
                ("true", "some x: true", False), ("same(x, y)", "same(y, x)", True),
                ("same(x, x)", "top(x) or not top(x)", True),
                ("child 0(x, y)", "below(x, y) and not some z: (below(x, z) and below(z, y))", kind == AB),
            ]:
                self.assertIs(equal(kind, read(one), read(other)), truth, (kind, one, other))
                self.assertIs(equal(kind, read(other), read(one)), truth)

    def test_a_formula_equals_its_core(self):
        numbers = random.Random(113)
        for _ in range(100):
            formula = random_formula(numbers, TREES, ["x"], ["X"], numbers.randrange(2, 5))
            self.assertIs(equal(TREES, formula, core(formula)), True)
            self.assertIs(equal(TREES, formula, ("not", ("not", formula))), True)

    def test_sentences_are_equal_where_they_do_not_part(self):
        numbers = random.Random(114)
        for _ in range(100):
            one, other = [random_formula(numbers, AB, [], [], 3) for _ in range(2)]
            self.assertIs(equal(AB, one, other), least_parting(AB, one, other) is None)

    def test_other_free_variables(self):
        for one, other in [
            ("top(x)", "top(y)"), ("top(x)", "true"), ("below(x, y)", "top(x)"), ("in(x, X)", "in(x, Y)"),
            ("true", "inside(X, X)"), ("some x: below(x, y)", "some y: below(x, y)"), ("top(x)", "top(x1)"),
        ]:
            for kind in (AB, TREES):
                self.assertRaises(InvalidSentence, equal, kind, read(one), read(other))
                self.assertRaises(InvalidSentence, equal, kind, read(other), read(one))


class ErrorsTest(unittest.TestCase):
    ONE = (least_model, is_always)
    TWO = (least_parting, equal)

    def refuse(self, error, kind, formula, functions=(ONE, TWO)):
        """The formula is wrong for all functions, for those of two formulas as the first or the second one."""
        for function in functions[0]:
            self.assertRaises(error, function, kind, formula)
        for function in functions[1]:
            self.assertRaises(error, function, kind, formula, ("true",))
            self.assertRaises(error, function, kind, ("true",), formula)
            self.assertRaises(error, function, kind, formula, formula)

    def test_the_kind_comes_first(self):
        for kind in NO_KINDS:
            for formula in (("true",), ("top", "x"), ("label", "q", "x"), nested("not", 41)):
                self.refuse(InvalidKind, kind, formula)

    def test_sentences_that_do_not_fit(self):
        for kind, formula in [
            (AB, ("some", "x", ("label", "c", "x"))), (AB, ("some", "x", ("child", 1, "x", "x"))),
            (TREES, ("some", "x", ("child", 2, "x", "x"))), (AB, nested("not", 41)), (AB, nested("or", 3000)),
            (AB, read("some a: some b: (below(a, b) and some c: some d: (below(c, d) and some e: some f: (below(e, f) "
                      "and some g: (below(a, g) and below(b, g) and below(c, g) and below(d, g) and below(e, g) and "
                      "below(f, g)))))")),
        ]:
            self.refuse(InvalidSentence, kind, formula)

    def test_free_variables(self):
        for formula in (("top", "x"), ("inside", "X", "X"), ("some", "x", ("in", "x", "X"))):
            self.refuse(InvalidSentence, AB, formula, (self.ONE, (least_parting,)))
            self.assertRaises(InvalidSentence, equal, AB, formula, ("true",))

    def test_too_large_machines(self):
        self.refuse(TooLarge, AB, letter_at(9))
        self.refuse(TooLarge, AB, ("and", letter_at(10), ("not", ("true",))))
        self.assertRaises(TooLarge, least_model, TREES, letter_at(9))
        self.assertRaises(TooLarge, equal, TREES, ("true",), letter_at(9))

    def test_a_wrong_sentence_comes_before_too_large(self):
        for wrong in (("some", "x", ("label", "c", "x")), ("top", "x"), nested("not", 41)):
            for function in self.TWO:
                self.assertRaises(InvalidSentence, function, AB, letter_at(9), wrong)
                self.assertRaises(InvalidSentence, function, AB, wrong, letter_at(9))


if __name__ == "__main__":
    unittest.main()
