"""Points 1 and 2 over the whole program: what is passed stays as it is, what is returned is new, which error comes
first, and all parts of the program agree on some sentences."""

import copy
import random
import unittest

from helper import (
    letter_at, make_machine, nested, plain_holds, plain_paths, plain_rows, random_formula, spelled, word,
)
from treesays.atoms import atom_machine
from treesays.counting import counts, keeps, recurrence
from treesays.deciding import equal, is_always, least_model, least_parting
from treesays.documents import Document
from treesays.errors import InvalidKind, InvalidSentence, InvalidShape, NoFunction, NoSuchElement, SayError, TooLarge
from treesays.expressions import check_expression, expression_machine, expression_of, tells
from treesays.formulas import check_formula, check_sentence, free_variables
from treesays.judge import judge
from treesays.machines import accepts, denied, is_machine, joined, least, mark, signs
from treesays.making import core, machine_of
from treesays.meaning import holds
from treesays.papers import paper
from treesays.plain import is_plain, plain
from treesays.questions import answers, failure, image
from treesays.readback import sentence_of
from treesays.reading import read_formula, write_formula
from treesays.relabelings import before, relabeled, together
from treesays.schemas import (
    keeps_schema, least_kept, least_stray, least_unlike, rows_of_tree, schema_machine, tree_of_rows,
)
from treesays.shapes import all_shapes, check_kind, is_shape, paths, read_shape, size, write_shape

AB = (1, ("a", "b"))
TREES = (2, ("a", "b"))
NO_KIND = (1, ("b", "a"))
LETTER = ("letter", "a")
SCHEMA = (("many", LETTER), (LETTER, ("empty",)))
RULES = (("b", ("top", "x")),)
WRONG_RULES = (("q", ("top", "x")),)


def read(text):
    return read_formula(text)


def spoil(value):
    """Change a list or dict, and those inside of it, as much as can be."""
    if isinstance(value, (list, dict)):
        for inside in list(value if isinstance(value, list) else value.values()):
            spoil(inside)
        value.clear()
    if isinstance(value, tuple):
        for inside in value:
            spoil(inside)


def sample():
    document = Document(("a", "b"))
    for place in ((0,), (0, 0), (1,), (1, 0), (1, 0, 0)):
        document.insert(place, "ab"[len(place) % 2])
    document.stand("q", read("label a(x)"))
    return document


class ArgumentsTest(unittest.TestCase):
    def test_lists_and_dicts_that_are_passed(self):
        values = {"x": (0,), "X": ((), (0,)), "more": ()}
        old = copy.deepcopy(values)
        shape = word("ab")
        for text in ("in(x, X)", "some x: in(x, X)", "all X: in(x, X)", "some y: (in(y, X) and below(y, x))"):
            holds(read(text), shape, values)
            self.assertEqual(values, old)
        self.assertEqual(list(values), list(old))
        sets = [((),), ((), (0,))]
        marked = mark(shape, sets)
        self.assertEqual(sets, [((),), ((), (0,))])
        sets.clear()
        self.assertEqual(marked, (("a", (1, 1)), (("b", (0, 1)), ())))
        rows = [("a", [("b", [])]), ("a", [])]
        tree = tree_of_rows(rows)
        self.assertEqual(rows, [("a", [("b", [])]), ("a", [])])
        spoil(rows)
        self.assertEqual(tree, ("a", ("b", (), ()), ("a", (), ())))

    def test_lists_that_are_returned(self):
        """What is done to them changes nothing of what comes later."""
        document = sample()
        formula = read("below(x, y) and in(x, X)")
        tree = document.tree()
        for call in (
            lambda: paths(tree), lambda: all_shapes(AB, 2), lambda: all_shapes(TREES, 0), lambda: signs(AB, 2),
            lambda: free_variables(formula), lambda: free_variables(("true",)), lambda: free_variables(formula[1]),
            lambda: counts(AB, ("true",), 4), lambda: counts(TREES, read("some x: label b(x)"), 3),
            lambda: answers(TREES, read("label a(x)"), tree), lambda: answers(TREES, read("label a(x)"), ()),
            lambda: rows_of_tree(tree), lambda: rows_of_tree(()), document.rows, lambda: document.ask("q"),
            Document(("a",)).rows,
        ):
            first, second = call(), call()
            kept = copy.deepcopy(first)
            self.assertIsInstance(first, list)
            self.assertEqual(first, second)
            self.assertIsNot(first, second)
            spoil(first)
            self.assertEqual(second, kept)
            self.assertEqual(call(), kept)

    def test_calls_tell_the_same_again(self):
        """Nothing is kept from call to call that would change an answer."""
        machine = machine_of(AB, read("some x: label b(x)"))
        sentence = read("some x: some y: (below(x, y) and label b(y))")
        calls = [
            lambda: machine_of(TREES, sentence), lambda: paper(AB, core(sentence)), lambda: least_model(TREES, sentence),
            lambda: recurrence(AB, sentence), lambda: failure(AB, read("below(x, y)")), lambda: sentence_of(machine),
            lambda: expression_of(machine), lambda: schema_machine(("a", "b"), SCHEMA), lambda: least_kept(("a", "b"), SCHEMA),
            lambda: before(AB, RULES, sentence), lambda: together(AB, RULES, RULES), lambda: plain(sentence),
            lambda: relabeled(AB, RULES, word("ab")), lambda: expression_machine(AB, ("many", LETTER)),
        ]
        first = [call() for call in calls]
        self.assertEqual([call() for call in reversed(calls)], first[::-1])


class ErrorsTest(unittest.TestCase):
    """Which one comes first, for each function with several."""

    def test_the_kind_comes_first(self):
        wrong = ("and", ("label", "q", "x"), nested("not", 41))
        for call in (
            lambda: check_kind(NO_KIND), lambda: is_shape(NO_KIND, 0), lambda: read_shape(NO_KIND, "?"),
            lambda: all_shapes(NO_KIND, 99), lambda: check_formula(NO_KIND, wrong), lambda: check_sentence(NO_KIND, wrong),
            lambda: signs(NO_KIND, 0), lambda: atom_machine(NO_KIND, wrong), lambda: machine_of(NO_KIND, wrong),
            lambda: paper(NO_KIND, wrong), lambda: judge(NO_KIND, wrong, 0), lambda: least_model(NO_KIND, wrong),
            lambda: is_always(NO_KIND, wrong), lambda: least_parting(NO_KIND, wrong, wrong),
            lambda: equal(NO_KIND, wrong, ("true",)), lambda: counts(NO_KIND, wrong, 2),
            lambda: recurrence(NO_KIND, wrong), lambda: recurrence(TREES, wrong), lambda: answers(NO_KIND, wrong, ()),
            lambda: failure(NO_KIND, wrong), lambda: image(NO_KIND, wrong, (), (3,)), lambda: Document(("b", "a")),
            lambda: check_expression(NO_KIND, ("letter", "q")), lambda: check_expression(TREES, ("letter", "q")),
            lambda: expression_machine(TREES, ("letter", "q")), lambda: keeps_schema(("b", "a"), (LETTER, ()), ()),
            lambda: schema_machine(("b", "a"), (LETTER, ())), lambda: least_kept(("b", "a"), (LETTER, ())),
            lambda: least_stray(("b", "a"), (LETTER, ()), SCHEMA), lambda: least_unlike(("b", "a"), SCHEMA, wrong),
            lambda: relabeled(NO_KIND, WRONG_RULES, ()), lambda: before(NO_KIND, WRONG_RULES, wrong),
            lambda: together(NO_KIND, WRONG_RULES, WRONG_RULES),
            lambda: keeps(make_machine(TREES, 0, 1, lambda sign, states: 0, [0]), (1,)),
            lambda: expression_of(make_machine(TREES, 0, 9, lambda sign, states: 0, [0])),
        ):
            self.assertRaises(InvalidKind, call)

    def test_what_is_wrong_comes_before_what_is_too_large(self):
        large = letter_at(9)
        wrong = ("and", large, ("some", "x", ("label", "q", "x")))
        free = ("and", large, ("in", "x", "X"))
        long = spelled("a" * 400)
        for call in (
            lambda: machine_of(AB, wrong), lambda: paper(AB, wrong), lambda: paper(AB, ("all", "x", large)),
            lambda: least_model(AB, free), lambda: is_always(AB, free), lambda: least_parting(AB, large, free),
            lambda: equal(AB, large, free), lambda: counts(AB, free, 1), lambda: recurrence(AB, free),
            lambda: answers(AB, free, ()), lambda: answers(AB, large, ()), lambda: failure(AB, free),
            lambda: image(AB, large, (), ()), lambda: sample().stand("q", free), lambda: sample().stand("q", wrong),
            lambda: expression_machine(AB, ("then", long, ("letter", "q"))),
            lambda: keeps_schema(("a", "b"), (long, (LETTER,)), ()), lambda: schema_machine(("a", "b"), (long, ())),
            lambda: least_stray(("a", "b"), (long, (LETTER, LETTER)), (LETTER, ())),
            lambda: least_unlike(("a", "b"), SCHEMA, free), lambda: relabeled(AB, (("b", large), ("q", large)), ()),
            lambda: relabeled(AB, (("b", large), ("b", ("in", "x", "X"))), ()),
        ):
            self.assertRaises(InvalidSentence, call)

    def test_what_is_too_large_comes_before_places(self):
        large = ("and", letter_at(9), ("same", "x", "y"))
        self.assertRaises(TooLarge, image, AB, large, (), (4,))
        self.assertRaises(NoSuchElement, image, AB, read("below(x, y)"), word("a"), (0,))
        self.assertRaises(NoFunction, image, AB, read("below(x, y)"), word("a"), ())
        self.assertRaises(NoSuchElement, sample().insert, (9,), "q")
        self.assertRaises(InvalidShape, sample().insert, (2,), "q")

    def test_all_errors_derive_from_one(self):
        for call in (
            lambda: machine_of(NO_KIND, ("true",)), lambda: machine_of(AB, ("label", "q", "x")),
            lambda: machine_of(AB, letter_at(9)), lambda: read_formula("?"), lambda: read_shape(AB, "?"),
            lambda: sample().ask("?"), lambda: sample().label(()),
        ):
            with self.assertRaises(SayError) as caught:
                call()
            self.assertEqual(type(caught.exception).__bases__, (SayError,))
            self.assertIsInstance(caught.exception, ValueError)


class AgreementTest(unittest.TestCase):
    """Each part tells the same of a sentence as all others do."""

    def test_sentences(self):
        numbers = random.Random(200)
        for kind, most in ((AB, 3), (TREES, 2)):
            shapes = [shape for number in range(most + 1) for shape in all_shapes(kind, number)]
            for _ in range(40):
                sentence = random_formula(numbers, kind, [], [], numbers.randrange(2, 6))
                machine = machine_of(kind, sentence)
                self.assertEqual(machine, least(machine))
                models = [shape for shape in shapes if plain_holds(sentence, shape, {})]
                self.assertEqual([shape for shape in shapes if accepts(machine, mark(shape, []))], models)
                self.assertEqual(counts(kind, sentence, most),
                                 [len([one for one in models if size(one) == number]) for number in range(most + 1)])
                if models:
                    self.assertEqual(least_model(kind, sentence), models[0])
                self.assertIs(is_always(kind, sentence), denied(machine)[3] == (False,))
                for other in (core(sentence), plain(sentence), before(kind, (), sentence),
                              read_formula(write_formula(sentence))):
                    self.assertIs(equal(kind, sentence, other), True)
                    self.assertIsNone(least_parting(kind, sentence, other))
                self.assertIs(is_plain(plain(("not", sentence))), True)
                self.assertIs(judge(kind, core(sentence), paper(kind, core(sentence))), True)
                if len(machine[3]) <= 4:
                    self.assertIs(equal(kind, sentence, sentence_of(machine)), True)
                if len(machine[3]) <= 5 and kind == AB:
                    told = expression_of(machine)
                    self.assertEqual(expression_machine(kind, told), machine)
                    self.assertEqual([shape for shape in shapes if tells(told, shape)], models)

    def test_schemas_and_sentences(self):
        """The rows of entries of test_schemas, told by a sentence."""
        labels = ("a", "b")
        entries = (("many", LETTER), (("many", ("letter", "b")), ("empty",)))
        sentence = read("""
            all x: ((not top(x) or label a(x)) and
            (all y: (not child 1(x, y) or label a(x) and label a(y) or label b(x) and label b(y))) and
            all y: (not child 0(x, y) or label a(x) and label b(y)))
        """)
        machine = schema_machine(labels, entries)
        self.assertEqual(machine, machine_of(TREES, sentence))
        self.assertIsNone(least_unlike(labels, entries, sentence))
        self.assertEqual(joined(machine, denied(machine_of(TREES, sentence)), True)[3], (False,))
        self.assertIs(equal(TREES, sentence, sentence_of(machine)) if len(machine[3]) <= 4 else True, True)
        for number in range(4):
            for shape in all_shapes(TREES, number):
                self.assertEqual(rows_of_tree(shape), plain_rows(shape))
                self.assertIs(keeps_schema(labels, entries, shape), plain_holds(sentence, shape, {}))

    def test_machines_of_expressions_and_schemas_are_least(self):
        for expression in (LETTER, ("many", LETTER), ("then", ("many", LETTER), ("letter", "b")), ("none",)):
            machine = expression_machine(AB, expression)
            self.assertTrue(is_machine(machine))
            self.assertEqual(machine, least(machine))
            machine = schema_machine(("a", "b"), (expression, (("many", LETTER), expression)))
            self.assertTrue(is_machine(machine))
            self.assertEqual(machine, least(machine))

    def test_questions_relabelings_and_documents(self):
        numbers = random.Random(201)
        for _ in range(40):
            question = random_formula(numbers, TREES, ["x"], [], numbers.randrange(1, 5))
            if free_variables(question) != ["x"]:
                continue
            document = Document(("a", "b"))
            for _ in range(6):
                document.insert((0,) * numbers.randrange(1, 2 + bool(document.rows())), numbers.choice("ab"))
            tree = document.tree()
            document.stand("q", question)
            found = answers(TREES, question, tree)
            self.assertEqual(len(document.ask("q")), len(found))
            self.assertEqual(found, [path for path in sorted(plain_paths(tree)) if holds(question, tree, {"x": path})])
            new = relabeled(TREES, (("b", question), ("a", ("true",))), tree)
            self.assertEqual(answers(TREES, read("label b(x)"), new), found)
            self.assertEqual(write_shape(new).count("b"), len(found))


if __name__ == "__main__":
    unittest.main()
