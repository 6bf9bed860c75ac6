"""treesays/reading.py: texts of formulas (point 9)."""

import random
import re
import unittest

from helper import ATOMS, nested, plain_inner, random_formula
from treesays.errors import SayError, SyntaxProblem
from treesays.reading import read_formula, write_formula

WORDS = "true not and or some all in inside below same top child label".split()
TREES = (2, ("a", "b"))
P, Q, R = ("top", "p"), ("top", "q"), ("top", "r")


class PlainReader:
    """The grammar of point 9, rule by rule."""

    def __init__(self, text):
        found = re.finditer(r"[a-zA-Z][a-zA-Z0-9]*|[^ \n]", text)
        self.tokens = [(some.start(), some.group()) for some in found]

    def read(self):
        self.at = 0
        formula = self.either()
        if self.at < len(self.tokens):
            self.fail()
        return formula

    def fail(self):
        if self.at < len(self.tokens):
            raise SyntaxProblem(self.tokens[self.at][0])
        at, token = self.tokens[-1] if self.tokens else (0, "")
        raise SyntaxProblem(at + len(token))

    def sees(self, *tokens):
        return self.at < len(self.tokens) and self.tokens[self.at][1] in tokens

    def take(self, pattern):
        if self.at == len(self.tokens) or not re.fullmatch(pattern, self.tokens[self.at][1]):
            self.fail()
        self.at += 1
        return self.tokens[self.at - 1][1]

    def name(self, letters):
        if self.sees(*WORDS):
            self.fail()
        return self.take(f"[{letters}][a-zA-Z0-9]*")

    def either(self):
        formula = self.both()
        while self.sees("or"):
            self.at += 1
            formula = ("or", formula, self.both())
        return formula

    def both(self):
        formula = self.denied()
        while self.sees("and"):
            self.at += 1
            formula = ("and", formula, self.denied())
        return formula

    def denied(self):
        if self.sees("not"):
            self.at += 1
            return ("not", self.denied())
        if self.sees("some", "all"):
            word = self.take("some|all")
            name = self.name("a-zA-Z")
            self.take(":")
            return (word + ("set" if name[0].isupper() else ""), name, self.denied())
        return self.simple()

    def simple(self):
        if self.sees("("):
            self.at += 1
            formula = self.either()
            self.take("[)]")
            return formula
        word = self.take("true|label|child|below|same|in|inside|top")
        start = (word,)
        if word == "label":
            start = (word, self.take("[a-z]"))
        elif word == "child":
            start = (word, int(self.take("[01]")))
        sorts = {"true": [], "label": ["a-z"], "top": ["a-z"], "in": ["a-z", "A-Z"], "inside": ["A-Z", "A-Z"]}
        names = []
        for sort in sorts.get(word, ["a-z", "a-z"]):
            self.take("," if names else "[(]")
            names.append(self.name(sort))
        if names:
            self.take("[)]")
        return start + tuple(names)


def outcome(read, *arguments):
    try:
        return read(*arguments)
    except SyntaxProblem as problem:
        return problem.start


def parts_of(formula):
    return [formula] + [one for part in plain_inner(formula) for one in parts_of(part)]


def names_in(formula):
    return sum(len(one) for part in parts_of(formula) for one in part[1:] if isinstance(one, str))


class ReadTest(unittest.TestCase):
    def check(self, text, formula):
        self.assertEqual(read_formula(text), formula)

    def test_the_example(self):
        self.check(
            "all x: (not label a(x) or some y: child 0(x, y))",
            ("all", "x", ("or", ("not", ("label", "a", "x")), ("some", "y", ("child", 0, "x", "y")))),
        )

    def test_atoms(self):
        self.check("true", ("true",))
        self.check("label a(x)", ("label", "a", "x"))
        self.check("label z(y)", ("label", "z", "y"))
        self.check("child 0(x, y)", ("child", 0, "x", "y"))
        self.check("child 1(y, x)", ("child", 1, "y", "x"))
        self.check("below(x, y)", ("below", "x", "y"))
        self.check("same(x, x)", ("same", "x", "x"))
        self.check("in(x, X)", ("in", "x", "X"))
        self.check("inside(X, Y)", ("inside", "X", "Y"))
        self.check("top(x)", ("top", "x"))

    def test_a_number_is_an_integer(self):
        self.assertIs(type(read_formula("child 1(x, y)")[1]), int)

    def test_quantifiers(self):
        self.check("some x: true", ("some", "x", ("true",)))
        self.check("all x: true", ("all", "x", ("true",)))
        self.check("some X: true", ("someset", "X", ("true",)))
        self.check("all X: true", ("allset", "X", ("true",)))
        self.check("some xY: true", ("some", "xY", ("true",)))
        self.check("all Xy: true", ("allset", "Xy", ("true",)))
        self.check("all x: some X: in(x, X)", ("all", "x", ("someset", "X", ("in", "x", "X"))))

    def test_what_binds_more(self):
        self.check("not top(p) and top(q)", ("and", ("not", P), Q))
        self.check("not top(p) or top(q)", ("or", ("not", P), Q))
        self.check("top(p) and not top(q) or top(r)", ("or", ("and", P, ("not", Q)), R))
        self.check("top(p) or top(q) and top(r)", ("or", P, ("and", Q, R)))
        self.check("some p: top(p) and top(q)", ("and", ("some", "p", P), Q))
        self.check("top(q) and all p: top(p) or top(r)", ("or", ("and", Q, ("all", "p", P)), R))
        self.check("not some p: not top(p) and top(q)", ("and", ("not", ("some", "p", ("not", P))), Q))
        self.check("not not top(p)", ("not", ("not", P)))

    def test_parentheses(self):
        self.check("not (top(p) and top(q))", ("not", ("and", P, Q)))
        self.check("(top(p) or top(q)) and top(r)", ("and", ("or", P, Q), R))
        self.check("top(p) and (top(q) or top(r))", ("and", P, ("or", Q, R)))
        self.check("some p: (top(p) or top(q))", ("some", "p", ("or", P, Q)))
        self.check("(((true)))", ("true",))
        self.check("not (not (true))", ("not", ("not", ("true",))))

    def test_chains(self):
        self.check("top(p) and top(q) and top(r)", ("and", ("and", P, Q), R))
        self.check("top(p) or top(q) or top(r)", ("or", ("or", P, Q), R))
        self.check("top(p) and (top(q) and top(r))", ("and", P, ("and", Q, R)))
        self.check("top(p) or (top(q) or top(r))", ("or", P, ("or", Q, R)))
        self.check("top(p) or top(q) and top(r) or top(p)", ("or", ("or", P, ("and", Q, R)), P))
        self.check("top(p) and top(q) or top(r) and top(p) or top(q)",
                   ("or", ("or", ("and", P, Q), ("and", R, P)), Q))

    def test_names(self):
        self.check("below(x1, longName22)", ("below", "x1", "longName22"))
        self.check("inside(Xs, Y0Y)", ("inside", "Xs", "Y0Y"))
        # Names that begin with a word, and words with other letters.
        for name in ("topmost", "in2", "insider", "nott", "orx", "allx", "some1", "truex", "tru", "i", "labels", "aLL"):
            self.check(f"top({name})", ("top", name))
            self.check(f"some {name}: top({name})", ("some", name, ("top", name)))
        for name in ("a", "z", "aZ", "zA", "b9", "y0"):
            self.check(f"all {name}: top({name})", ("all", name, ("top", name)))
        for name in ("A", "Z", "Az", "Za", "In", "NOT", "True", "All"):
            self.check(f"some {name}: inside({name}, X)", ("someset", name, ("inside", name, "X")))

    def test_spaces_and_newlines(self):
        self.check("  \n top ( x )\n", ("top", "x"))
        self.check("label\na\n(x)", ("label", "a", "x"))
        self.check("child 0 (x,y)", ("child", 0, "x", "y"))
        self.check("child\n1(x\n,\ny)and(true)", ("and", ("child", 1, "x", "y"), ("true",)))
        self.check("some x:not(top(x))or true", ("or", ("some", "x", ("not", ("top", "x"))), ("true",)))
        self.check("all x:all X:in(x,X)", ("all", "x", ("allset", "X", ("in", "x", "X"))))

    def test_deep_texts(self):
        self.check("(" * 5000 + "true" + ")" * 5000, ("true",))
        self.assertEqual(write_formula(read_formula("not " * 5000 + "true")), "not " * 5000 + "true")
        self.assertEqual(outcome(read_formula, "(" * 100000), 100000)
        self.assertEqual(outcome(read_formula, "not " * 20000), 4 * 20000 - 1)


class FailTest(unittest.TestCase):
    def fails(self, text, start):
        with self.assertRaises(SyntaxProblem) as caught:
            read_formula(text)
        self.assertEqual(caught.exception.start, start, text)
        self.assertIsInstance(caught.exception, SayError)

    def test_too_early_an_end(self):
        for text, start in [
            ("", 0), (" \n ", 0), ("not", 3), ("not  ", 3), (" not\n", 4), ("some", 4), ("all x", 5), ("all x :\n", 7),
            ("(true", 5), ("(true or ", 8), ("true and", 8), ("label", 5), ("label a", 7), ("label a(", 8),
            ("label a(x", 9), ("child", 5), ("child 0", 7), ("child 1(x", 9), ("child 1(x,", 10), ("top", 3),
            ("in(x, X", 7), ("inside(", 7), ("(", 1), ("((true)", 7),
        ]:
            self.fails(text, start)

    def test_a_token_that_cannot_stand_there(self):
        for text, start in [
            (")", 0), ("and", 0), ("or true", 0), (":", 0), ("x", 0), ("0", 0), ("true and or true", 9), ("not and", 4),
            ("some : true", 5), ("some true: true", 5), ("some x true", 7), ("all x: : true", 7),
            ("some x, y: true", 6), ("some 0: true", 5), ("()", 1), ("(true,", 5), ("(true and)", 9),
            ("top x", 4), ("top()", 4),
            ("top(x, y)", 5), ("top(in)", 4), ("below(x)", 7), ("below(x y)", 8), ("below(x, y, z)", 10),
            ("below(x,, y)", 8), ("child (x, y)", 6), ("child 0 1(x, y)", 8), ("child x(x, y)", 6),
            ("child 01(x, y)", 7), ("label (x)", 6), ("label 0(x)", 6), ("label a x", 8), ("label a(0)", 8),
            ("label not(x)", 6),
            ("true(x)", 4), ("not(true not)", 9), ("child0(x, y)", 0), ("child 0x(x, y)", 7), ("notop(x)", 0),
        ]:
            self.fails(text, start)

    def test_what_is_left_over(self):
        for text, start in [
            ("true true", 5), ("true)", 4), ("(true))", 6), ("top(x) top(x)", 7), ("true not true", 5), ("true\nx", 5),
            ("true 0", 5), ("true,", 4), ("some x: top(x) some", 15),
        ]:
            self.fails(text, start)

    def test_wrong_characters(self):
        for text, start in [
            ("#", 0), ("true #", 5), ("\ttrue", 0), ("true\t", 4), ("true\r\n", 4), ("child 2(x, y)", 6),
            ("true & true", 5), ("top(x_1)", 5), ("top(\u00e9)", 4), ("top(x\u00e9)", 5), ("some x; true", 6),
            ("top[x]", 3), ("x2 ?", 0),
            ("some 2x: true", 5), ("true.", 4), ("'true'", 0), ("not \u00b2", 4), ("label \u03b1(x)", 6), ("-", 0),
            ("child 0(x, y\u0661)", 12), ("\u00a0true", 0), ("true\x0b", 4),
        ]:
            self.fails(text, start)

    def test_a_wrong_character_behind_another_mistake(self):
        self.fails("true true #", 5)
        self.fails("top(X) #", 4)
        self.fails("# true true", 0)

    def test_names_of_the_wrong_sort(self):
        for text, start in [
            ("top(X)", 4), ("label a(X)", 8), ("child 0(X, y)", 8), ("child 0(x, Y)", 11), ("below(X, y)", 6),
            ("below(x, Yy)", 9), ("same(X, Y)", 5), ("in(X, X)", 3), ("in(x, x)", 6), ("inside(x, X)", 7),
            ("inside(X, x)", 10), ("not (true or top(Top))", 17), ("in(X, x) #", 3),
        ]:
            self.fails(text, start)

    def test_labels_that_are_not_one_small_letter(self):
        for text, start in [
            ("label ab(x)", 6), ("label A(x)", 6), ("label a1(x)", 6), ("label AB(x)", 6), ("not label  top(x)", 11),
            ("label true(x)", 6), ("label ((x)", 6),
        ]:
            self.fails(text, start)

    def test_texts_with_changes(self):
        """Random texts fail, or are read, as the grammar tells."""
        numbers = random.Random(50)
        tokens = WORDS + ["(", ")", ",", ":", "0", "1", "x", "X", "y2", "Yz", "a", "b", "#", "2", "\n", " "]
        failed = 0
        for _ in range(6000):
            formula = random_formula(numbers, TREES, ["x", "y2"], ["X"], numbers.randrange(1, 5))
            pieces = re.findall(r"[a-zA-Z0-9]+|.", write_formula(formula))
            for _ in range(numbers.randrange(3)):
                at = numbers.randrange(len(pieces))
                pieces[at:at + numbers.randrange(2)] = [numbers.choice(tokens)] * numbers.randrange(3)
                pieces = pieces or [" "]
            text = numbers.choice(["", " "]).join(pieces)[:numbers.choice([None, None, -1, 10])]
            expected = outcome(PlainReader(text).read)
            self.assertEqual(outcome(read_formula, text), expected, text)
            failed += isinstance(expected, int)
        self.assertGreater(failed, 2000)
        self.assertLess(failed, 5500)


class WriteTest(unittest.TestCase):
    def check(self, formula):
        text = write_formula(formula)
        self.assertIsInstance(text, str)
        self.assertEqual(read_formula(text), formula, text)
        self.assertEqual(PlainReader(text).read(), formula, text)
        self.assertLessEqual(len(text), 30 * len(parts_of(formula)) + names_in(formula))

    def test_atoms(self):
        for atom in ATOMS + [("in", "longName", "LongName2"), ("child", 0, "x" * 100, "y")]:
            self.check(atom)

    def test_all_nestings(self):
        forms = [
            lambda f, g: ("not", f), lambda f, g: ("and", f, g), lambda f, g: ("or", f, g),
            lambda f, g: ("some", "x", f), lambda f, g: ("all", "x", f),
            lambda f, g: ("someset", "X", f), lambda f, g: ("allset", "X", f),
        ]
        ones = [form(P, Q) for form in forms]
        twos = [form(f, g) for form in forms for f in ones + [R] for g in ones + [R]]
        for formula in ones + twos:
            self.check(formula)
        for form in forms:
            for f in twos:
                self.check(form(f, Q))
                self.check(form(R, f))

    def test_random_formulas(self):
        numbers = random.Random(51)
        for _ in range(1000):
            self.check(random_formula(numbers, TREES, ["x", "u1"], ["Xx", "U"], numbers.randrange(1, 8)))

    def test_deep_formulas(self):
        for word in ("not", "and", "or", "some", "allset"):
            self.check(nested(word, 40))
            text = write_formula(nested(word, 1500))
            self.assertEqual(write_formula(read_formula(text)), text)


if __name__ == "__main__":
    unittest.main()
