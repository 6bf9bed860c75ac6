"""treesays/relabelings.py: what relabelings do, and what holds behind them (points 28 and 29)."""

import random
import unittest

from helper import (
    NO_KINDS, choices_of, letter_at, nested, plain_at, plain_free, plain_holds, plain_inner, plain_paths,
    plain_shapes, random_formula, random_shape, word,
)
from treesays.deciding import equal, is_always, least_parting
from treesays.errors import InvalidKind, InvalidSentence, TooLarge
from treesays.formulas import check_formula, depth, free_variables
from treesays.meaning import holds
from treesays.reading import read_formula
from treesays.relabelings import before, relabeled, together

A = (1, ("a",))
AB = (1, ("a", "b"))
ABC = (1, ("a", "b", "c"))
TREES = (2, ("a", "b"))
TREES_3 = (2, ("a", "b", "c"))


def read(text):
    return read_formula(text)


def rules_of(text):
    """The relabeling that is written so: a label, an arrow and a formula, with semicolons between them."""
    pairs = [part.split("->") for part in text.split(";") if part.strip()]
    return tuple((label.strip(), read(formula)) for label, formula in pairs)


def plain_relabeled(rules, shape):
    """Point 28, word by word."""
    def label_at(path):
        for label, formula in rules:
            if plain_holds(formula, shape, {"x": path}):
                return label
        return plain_at(shape, path)[0]

    def labeled(now, path):
        if not now:
            return ()
        return (label_at(path),) + tuple(labeled(child, path + (k,)) for k, child in enumerate(now[1:]))

    return labeled(shape, ())


def random_rules(random, kind, count, deep):
    """A relabeling whose formulas also bind variables with the names of others."""
    rules = []
    for _ in range(count):
        while True:
            formula = random_formula(random, kind, ["x"], [], random.randrange(1, deep + 1))
            if plain_free(formula) <= {"x"}:
                break
        rules.append((random.choice(kind[1]), formula))
    return tuple(rules)


def variables_in(formula):
    names = {formula[1]} if formula[0] in ("some", "all", "someset", "allset") else set()
    return (names if plain_inner(formula) else plain_free(formula)).union(
        *[variables_in(part) for part in plain_inner(formula)])


SWAP = rules_of("a -> label b(x); b -> label a(x)")


class RelabeledTest(unittest.TestCase):
    def test_by_hand(self):
        for kind, rules, shape, found in [
            (AB, "a -> label b(x); b -> label a(x)", word("abba"), word("baab")),
            (AB, "b -> top(x)", word("aaa"), word("baa")),
            (AB, "b -> some y: below(x, y)", word("aab"), word("bbb")),
            (AB, "b -> not some y: below(x, y)", word("aaa"), word("aab")),
            # The first rule counts.
            (ABC, "c -> top(x); b -> true", word("aab"), word("cbb")),
            (ABC, "b -> true; c -> top(x)", word("aab"), word("bbb")),
            (ABC, "a -> label a(x); b -> true; c -> true", word("cab"), word("bab")),
            # All formulas look at the shape as it was.
            (AB, "b -> some y: (child 0(y, x) and label b(y)); a -> true", word("baaa"), word("abaa")),
            (AB, "a -> some y: (child 0(x, y) and label b(y)); b -> true", word("bbba"), word("aabb")),
            (AB, "", word("abba"), word("abba")), (AB, "b -> not true", word("aab"), word("aab")),
            (AB, "b -> some y: label b(y)", word("aab"), word("bbb")), (AB, "b -> some y: label b(y)", word("aa"), word("aa")),
            (AB, "a -> some X: (in(x, X) and all y: (not in(y, X) or label b(y)))", word("abb"), word("aaa")),
            (TREES, "b -> some y: child 1(y, x)", ("a", ("a", (), ()), ("a", (), ("a", (), ()))),
             ("a", ("a", (), ()), ("b", (), ("b", (), ())))),
        ]:
            self.assertEqual(relabeled(kind, rules_of(rules), shape), found, rules)

    def test_the_empty_shape(self):
        for kind in (AB, TREES):
            for rules in ("", "b -> true", "b -> top(x); a -> some y: label b(y)"):
                self.assertEqual(relabeled(kind, rules_of(rules), ()), ())

    def test_the_plain_meaning(self):
        """Also rules whose formulas have quantifiers of both sorts."""
        numbers = random.Random(190)
        for kind, most in ((A, 4), (AB, 5), (ABC, 4), (TREES, 4), (TREES_3, 3)):
            changed = 0
            for _ in range(60):
                rules = random_rules(numbers, kind, numbers.randrange(4), 5)
                for _ in range(3):
                    shape = random_shape(numbers, kind, numbers.randrange(most + 1))
                    found = relabeled(kind, rules, shape)
                    self.assertEqual(found, plain_relabeled(rules, shape), (rules, shape))
                    changed += found != shape
            self.assertTrue(changed > 25 or kind == A)

    def test_many_elements(self):
        text = "ab" * 100
        self.assertEqual(relabeled(AB, SWAP, word(text)), word("ba" * 100))
        rules = rules_of("b -> some y: (child 0(x, y) and label b(y)); a -> true")
        self.assertEqual(relabeled(AB, rules, word("aab" * 60)), word("aba" * 60))


class BeforeTest(unittest.TestCase):
    def check(self, kind, rules, formula, shapes):
        found = before(kind, rules, formula)
        self.assertEqual(set(free_variables(found)), plain_free(formula))
        for shape in shapes:
            new = plain_relabeled(rules, shape)
            for values in choices_of(shape, sorted(plain_free(formula))):
                self.assertIs(holds(found, shape, values), plain_holds(formula, new, values),
                              (rules, formula, shape, values))
        return found

    def test_by_hand(self):
        shapes = [shape for size in range(4) for shape in plain_shapes(1, ("a", "b"), size)]
        for rules in ("", "a -> label b(x); b -> label a(x)", "b -> true", "b -> not true", "a -> some y: below(x, y)",
                      "b -> some y: (child 0(y, x) and label b(y)); a -> top(x)", "a -> top(x); b -> top(x)",
                      "a -> some X: (in(x, X) and some y: (in(y, X) and label b(y) and not same(x, y)))"):
            for formula in ("label a(x)", "label b(y)", "label a(x) and label b(y)", "some x: label b(x)", "top(x)",
                            "all y: (label a(y) or below(x, y))", "below(x, y) and label a(z)", "in(x, X)", "true",
                            "some X: (in(x, X) and all y: (not in(y, X) or label a(y)))"):
                self.check(AB, rules_of(rules), read(formula), shapes if "z" not in formula else shapes[:8])

    def test_bound_variables_that_stand_in_the_rules(self):
        """The rule speaks of another element by each name that the formula may have free or bound."""
        shapes = [shape for size in range(4) for shape in plain_shapes(1, ("a", "b"), size)]
        for name in ("y", "z", "x", "x1"):
            other = "y" if name == "x" else name
            for rule in (f"some {other}: (child 0(x, {other}) and label b({other}))",
                         f"all {other}: (not below({other}, x) or label b({other}))",
                         f"some {other}: (child 0({other}, x) and some x: (child 0({other}, x) and label b(x)))",
                         f"some x: (label b(x) and top(x)) and some {other}: below(x, {other})"):
                for formula in (f"label b({name})", f"some {name}: label b({name})",
                                f"some {name}: (label b({name}) and some x: (below({name}, x) and label a(x)))",
                                f"label a(x) and all {name}: (same(x, {name}) or label b({name}))",
                                f"some x: (label b(x) and not below(x, {name}))"):
                    self.check(AB, rules_of(f"b -> {rule}; a -> true"), read(formula), shapes)

    def test_random_formulas(self):
        """With free variables of both sorts."""
        numbers = random.Random(191)
        for kind in (AB, TREES, ABC, TREES_3):
            shapes = [shape for size in range(3) for shape in plain_shapes(kind[0], kind[1], size)]
            for _ in range(60):
                rules = random_rules(numbers, kind, numbers.randrange(4), 4)
                formula = random_formula(numbers, kind, numbers.choice([[], ["x"], ["y"], ["x", "z"]]),
                                         numbers.choice([[], ["X"]]), numbers.randrange(1, 5))
                some = numbers.sample(shapes, min(4, len(shapes))) + [random_shape(numbers, kind, 3)]
                self.check(kind, rules, formula, some)

    def test_it_fits_and_has_no_more_free_variables(self):
        numbers = random.Random(192)
        for kind in (AB, TREES):
            for _ in range(60):
                rules = random_rules(numbers, kind, numbers.randrange(5), 5)
                formula = random_formula(numbers, kind, ["x"], ["X"], numbers.randrange(1, 6))
                found = before(kind, rules, formula)
                check_formula(kind, found)
                names = variables_in(formula).union({"x"}, *[variables_in(rule) for _, rule in rules])
                self.assertLessEqual(variables_in(found), names)

    def test_many_rules(self):
        """The formula before them is not nested as deep as there are rules."""
        rules = tuple((("a", "b")[k % 2], letter_at(k % 3, "ab"[k % 5 % 2])) for k in range(60))
        found = before(AB, rules, read("all x: label b(x)"))
        self.assertLess(depth(found), 25)
        self.check(AB, rules, read("all x: label b(x)"), [word(text) for text in ("", "a", "ab", "bab", "bba")])
        self.assertIs(is_always(AB, ("or", found, ("not", found))), True)

    def test_all_shapes_at_once(self):
        """What is decided of what is behind a relabeling."""
        first = read("all x: all y: (not child 0(x, y) or not (label a(x) and label a(y)))")
        second = read("all x: all y: (not child 0(x, y) or not (label b(x) and label b(y)))")
        self.assertIs(equal(AB, before(AB, SWAP, first), second), True)
        self.assertIs(equal(AB, before(AB, SWAP, read("label a(q)")), read("label b(q)")), True)
        # Each letter that has one of its own kind behind it is changed.
        rules = rules_of("b -> label a(x) and some y: (child 0(x, y) and label a(y)); "
                         "a -> label b(x) and some y: (child 0(x, y) and label b(y))")
        for kind in (AB, TREES):
            self.assertIsNone(least_parting(kind, before(kind, rules, read("some x: true")), read("some x: true")))
        self.assertEqual(least_parting(AB, before(AB, rules, first), ("true",)), word("abb"))

    def test_a_relabeling_twice(self):
        for kind in (AB, TREES):
            for text in ("label a(x)", "some y: (below(x, y) and label b(y))", "all X: (in(x, X) or label b(x))"):
                twice = before(kind, SWAP, before(kind, SWAP, read(text)))
                self.assertIs(equal(kind, twice, read(text)), True)


class TogetherTest(unittest.TestCase):
    def test_by_hand(self):
        up = rules_of("b -> some y: (child 0(x, y) and label b(y)); a -> true")
        self.assertEqual(relabeled(AB, up, word("aaab")), word("aaba"))
        twice = together(AB, up, up)
        self.assertEqual(relabeled(AB, twice, word("aaab")), word("abaa"))
        self.assertEqual(relabeled(AB, together(AB, twice, up), word("aaab")), word("baaa"))
        self.assertEqual(relabeled(AB, together(AB, up, twice), word("aaab")), word("baaa"))
        self.assertEqual(together(AB, (), ()), ())
        for rules in (up, SWAP, rules_of("b -> top(x)")):
            for pair in ((rules, ()), ((), rules)):
                for text in ("", "a", "abab", "bbab"):
                    self.assertEqual(relabeled(AB, together(AB, *pair), word(text)), relabeled(AB, rules, word(text)))

    def test_relabeled_by_it_is_relabeled_twice(self):
        numbers = random.Random(193)
        for kind, most in ((AB, 4), (ABC, 3), (TREES, 3), (TREES_3, 3)):
            changed = 0
            for _ in range(50):
                first = random_rules(numbers, kind, numbers.randrange(4), 4)
                second = random_rules(numbers, kind, numbers.randrange(4), 4)
                both = together(kind, first, second)
                self.assertIsInstance(both, tuple)
                for label, formula in both:
                    self.assertIn(label, kind[1])
                    check_formula(kind, formula)
                    self.assertLessEqual(plain_free(formula), {"x"})
                for _ in range(3):
                    shape = random_shape(numbers, kind, numbers.randrange(most + 1))
                    middle = plain_relabeled(first, shape)
                    last = plain_relabeled(second, middle)
                    self.assertEqual(relabeled(kind, both, shape), last, (first, second, shape))
                    self.assertEqual(relabeled(kind, second, relabeled(kind, first, shape)), last)
                    changed += shape != middle != last != shape
            self.assertGreater(changed, 3)


class ErrorsTest(unittest.TestCase):
    RIGHT = (("b", ("top", "x")),)

    def refuse(self, error, kind, rules, formula=("true",)):
        self.assertRaises(error, relabeled, kind, rules, ())
        self.assertRaises(error, before, kind, rules, formula)
        self.assertRaises(error, together, kind, rules, self.RIGHT)
        self.assertRaises(error, together, kind, self.RIGHT, rules)
        self.assertRaises(error, together, kind, rules, rules)
        if rules:
            self.assertRaises(error, together, kind, rules, ())
            self.assertRaises(error, together, kind, (), rules)

    def test_the_kind_comes_first(self):
        for kind in NO_KINDS:
            for rules in ((), self.RIGHT, (("q", ("top", "x")),), (("a", ("top", "y")),), (("a", nested("not", 41)),)):
                self.refuse(InvalidKind, kind, rules)

    def test_wrong_labels(self):
        for label in ("c", "", "A", "ab", "x"):
            self.refuse(InvalidSentence, AB, ((label, ("true",)),))
            self.refuse(InvalidSentence, TREES, self.RIGHT + ((label, ("top", "x")),) + self.RIGHT)

    def test_formulas_that_do_not_fit(self):
        for formula in (("label", "c", "x"), ("child", 1, "x", "x"), nested("not", 41, ("top", "x")),
                        ("some", "y", ("label", "q", "y"))):
            self.refuse(InvalidSentence, AB, (("a", formula),))
            self.refuse(InvalidSentence, AB, self.RIGHT + (("b", formula),))
            self.assertRaises(InvalidSentence, before, AB, self.RIGHT, formula)
            self.assertRaises(InvalidSentence, before, AB, (), formula)
        self.refuse(InvalidSentence, TREES, (("a", ("child", 2, "x", "x")),))

    def test_other_free_variables(self):
        for text in ("top(y)", "below(x, y)", "in(x, X)", "inside(X, X)", "some x: below(x, y)", "top(x1)",
                     "some x: in(x, X)"):
            for kind in (AB, TREES):
                self.refuse(InvalidSentence, kind, (("a", read(text)),))
                self.refuse(InvalidSentence, kind, self.RIGHT + (("a", read(text)),))

    def test_too_large(self):
        for kind in (AB, TREES):
            for formula in (letter_at(9), ("and", ("top", "x"), letter_at(9))):
                for shape in ((), random_shape(random.Random(194), kind, 3)):
                    self.assertRaises(TooLarge, relabeled, kind, (("a", formula),), shape)
                    self.assertRaises(TooLarge, relabeled, kind, (("a", ("true",)), ("a", formula)), shape)
        # Formulas are made without their machines.
        self.assertEqual(len(together(AB, (("a", letter_at(9)),), self.RIGHT)), 2)
        before(AB, (("a", letter_at(9)),), ("label", "a", "x"))

    def test_a_wrong_rule_comes_before_too_large(self):
        self.refuse(InvalidSentence, AB, (("a", letter_at(9)), ("c", ("true",))))


if __name__ == "__main__":
    unittest.main()
