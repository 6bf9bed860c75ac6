"""treesays/schemas.py: schemas of documents, their machines, and least shapes (points 26 and 27)."""

import copy
import random
import unittest

from helper import (
    NO_KINDS, first_with, full_tree, in_order, letter_at, nested, plain_holds, plain_least, plain_mark, plain_paths,
    plain_rows, plain_shapes, plain_state, plain_text, plain_told, random_expression, random_formula, random_shape,
    spelled,
)
from treesays.documents import Document
from treesays.errors import InvalidKind, InvalidSentence, TooLarge
from treesays.machines import is_machine, least
from treesays.reading import read_formula
from treesays.schemas import (
    keeps_schema, least_kept, least_stray, least_unlike, rows_of_tree, schema_machine, tree_of_rows,
)

ONE, TWO, THREE = ("a",), ("a", "b"), ("a", "b", "c")
NONE, EMPTY = ("none",), ("empty",)
LETTER_A, LETTER_B = ("letter", "a"), ("letter", "b")
ANY = ("either", LETTER_A, LETTER_B)
ALL = ("many", ANY)

# A list of entries a, each with some b inside; in a b there is nothing.
ENTRIES = (("many", LETTER_A), (("many", LETTER_B), EMPTY))


def read(text):
    return read_formula(text)


def keeps_plainly(labels, schema, rows):
    """Point 26, row by row."""
    top, rules = schema
    text = "".join(label for label, _ in rows)
    inner = all(keeps_plainly(labels, (rules[labels.index(label)], rules), inside) for label, inside in rows)
    return inner and text in plain_told(top, len(text))


def random_schema(random, labels, deep):
    found = [random_expression(random, labels, deep) for _ in range(len(labels) + 1)]
    found = [("many", one) if random.random() < 0.4 else one for one in found]
    return found[0], tuple(found[1:])


def accepted(machine, shape):
    return machine[3][plain_state(machine, plain_mark(shape, []))]


def row_of(text):
    """The tree of a row of items without items inside."""
    return (text[0], (), row_of(text[1:])) if text else ()


class KeepsTest(unittest.TestCase):
    def test_by_hand(self):
        for text, truth in [
            (".", True), ("a(.,.)", True), ("b(.,.)", False), ("a(b(.,.),.)", True), ("a(b(.,b(.,.)),a(.,.))", True),
            ("a(.,b(.,.))", False), ("a(a(.,.),.)", False), ("a(b(b(.,.),.),.)", False), ("a(b(a(.,.),.),.)", False),
            ("a(b(.,a(.,.)),.)", False), ("a(.,a(.,a(b(.,.),.)))", True),
        ]:
            shape = first_with(in_order((2, TWO), 4), lambda shape: plain_text(shape) == text)
            self.assertIs(keeps_schema(TWO, ENTRIES, shape), truth, text)
            self.assertIs(accepted(schema_machine(TWO, ENTRIES), shape), truth)

    def test_the_empty_document(self):
        for top, truth in ((EMPTY, True), (("many", LETTER_A), True), (NONE, False), (LETTER_A, False)):
            for rule in (NONE, EMPTY, LETTER_A):
                self.assertIs(keeps_schema(ONE, (top, (rule,)), ()), truth)
                self.assertIs(accepted(schema_machine(ONE, (top, (rule,))), ()), truth)

    def test_checking_rows_one_by_one(self):
        numbers = random.Random(170)
        for labels, most, deep in ((ONE, 5, 6), (TWO, 3, 5), (THREE, 2, 4)):
            shapes = [shape for size in range(most + 1) for shape in plain_shapes(2, labels, size)]
            shapes += [random_shape(numbers, (2, labels), numbers.randrange(4, 12)) for _ in range(20)]
            kept = 0
            for _ in range(60):
                schema = random_schema(numbers, labels, numbers.randrange(1, deep))
                machine = schema_machine(labels, schema)
                self.check_least(machine, labels)
                for shape in shapes:
                    expected = keeps_plainly(labels, schema, plain_rows(shape))
                    self.assertIs(keeps_schema(labels, schema, shape), expected, (schema, shape))
                    self.assertIs(accepted(machine, shape), expected)
                    kept += expected and shape != ()
            self.assertGreater(kept, 50)

    def check_least(self, machine, labels):
        self.assertTrue(is_machine(machine))
        self.assertEqual(machine[:2], ((2, labels), 0))
        self.assertEqual(least(machine), machine)
        self.assertEqual(plain_least(machine), machine)

    def test_a_machine_that_accepts_everything_or_nothing(self):
        for labels in (ONE, TWO, THREE):
            anything = ("many", ("letter", "a"))
            for label in labels[1:]:
                anything = ("many", ("either", anything, ("letter", label)))
            rules = tuple(anything for _ in labels)
            rows = ((0,),)
            self.assertEqual(schema_machine(labels, (anything, rules)), ((2, labels), 0, (rows,) * len(labels), (True,)))
            self.assertEqual(schema_machine(labels, (NONE, rules)), ((2, labels), 0, (rows,) * len(labels), (False,)))
            self.assertEqual(len(schema_machine(labels, (EMPTY, rules))[3]), 2)

    def test_rules_that_never_count(self):
        """What is inside of b does not matter where no b may be, and what is inside of a has no end."""
        first = schema_machine(TWO, (("many", LETTER_A), (EMPTY, EMPTY)))
        for rule in (NONE, ALL, spelled("abab"), ("many", spelled("aab"))):
            self.assertEqual(schema_machine(TWO, (("many", LETTER_A), (EMPTY, rule))), first)
            self.assertEqual(len(schema_machine(TWO, (LETTER_A, (LETTER_A, rule)))[3]), 1)

    def test_documents(self):
        numbers = random.Random(171)
        document = Document(TWO)
        truths = []
        for _ in range(80):
            if len(document.rows()) > 3:
                document.remove((numbers.randrange(4),))
            document.insert((0,), numbers.choice("aaab"))
            document.insert((0, 0), numbers.choice("bbba"))
            truths.append(keeps_schema(TWO, ENTRIES, document.tree()))
            self.assertIs(truths[-1], keeps_plainly(TWO, ENTRIES, document.rows()))
        self.assertEqual(set(truths), {True, False})

    def test_many_items(self):
        rows = [("a", [("b", [])] * 50)] * 60
        self.assertIs(keeps_schema(TWO, ENTRIES, tree_of_rows(rows)), True)
        self.assertIs(keeps_schema(TWO, ENTRIES, tree_of_rows(rows + [("b", [])])), False)
        self.assertIs(keeps_schema(TWO, ENTRIES, tree_of_rows([("a", [("b", []), ("a", [])])] + rows)), False)
        nest = []
        for _ in range(1000):
            nest = [("a", nest)]
        self.assertIs(keeps_schema(TWO, (LETTER_A, (("either", EMPTY, LETTER_A), NONE)), tree_of_rows(nest)), True)
        self.assertIs(keeps_schema(TWO, (LETTER_A, (LETTER_A, NONE)), tree_of_rows(nest)), False)


class LeastTest(unittest.TestCase):
    def text(self, shape):
        return None if shape is None else plain_text(shape)

    def test_kept_by_hand(self):
        for schema, text in [
            (ENTRIES, "."), ((LETTER_A, ENTRIES[1]), "a(.,.)"), ((LETTER_A, (LETTER_B, EMPTY)), "a(b(.,.),.)"),
            ((spelled("ba"), ENTRIES[1]), "b(.,a(.,.))"), ((NONE, ENTRIES[1]), None),
            ((LETTER_A, (LETTER_A, EMPTY)), None), ((LETTER_A, (("either", LETTER_A, LETTER_B), EMPTY)), "a(b(.,.),.)"),
            ((("either", spelled("bb"), LETTER_A), (LETTER_B, EMPTY)), "a(b(.,.),.)"),
            ((("either", spelled("bb"), spelled("a")), (spelled("bb"), EMPTY)), "b(.,b(.,.))"),
        ]:
            self.assertEqual(self.text(least_kept(TWO, schema)), text, schema)

    def test_stray_by_hand(self):
        loose = (ALL, (ALL, ALL))
        for first, second, text in [
            (ENTRIES, ENTRIES, None), (ENTRIES, loose, None), (loose, ENTRIES, "b(.,.)"),
            ((ALL, ENTRIES[1]), ENTRIES, "b(.,.)"), ((("many", LETTER_A), (ALL, EMPTY)), ENTRIES, "a(a(.,.),.)"),
            ((("many", LETTER_A), (("many", LETTER_B), ALL)), ENTRIES, "a(b(a(.,.),.),.)"),
            (ENTRIES, (NONE, (ALL, ALL)), "."), ((NONE, (ALL, ALL)), ENTRIES, None),
            (ENTRIES, (("many", spelled("aa")), (ALL, ALL)), "a(.,.)"),
        ]:
            self.assertEqual(self.text(least_stray(TWO, first, second)), text, (first, second))

    def test_unlike_by_hand(self):
        for schema, sentence, text in [
            (ENTRIES, "all x: (label a(x) or some y: (label a(y) and child 0(y, x)) or some y: child 1(y, x))", None),
            (ENTRIES, "all x: not label b(x)", "a(b(.,.),.)"), (ENTRIES, "some x: true", "."),
            (ENTRIES, "all x: (label a(x) or not some y: (label a(y) and child 1(x, y)))", None),
            (ENTRIES, "all x: all y: all z: (not child 0(x, y) or not child 1(y, z))", "a(b(.,b(.,.)),.)"),
            (ENTRIES, "true", None), (ENTRIES, "not true", "."), ((NONE, (EMPTY, EMPTY)), "not true", None),
        ]:
            self.assertEqual(self.text(least_unlike(TWO, schema, read(sentence))), text, (schema, sentence))

    def test_the_first_shape_in_the_order(self):
        numbers = random.Random(172)
        for labels, most, deep in ((ONE, 5, 6), (TWO, 3, 5)):
            shapes = in_order((2, labels), most)
            sizes = []
            for _ in range(70):
                first = random_schema(numbers, labels, numbers.randrange(2, deep))
                second = random_schema(numbers, labels, numbers.randrange(2, deep))
                sentence = random_formula(numbers, (2, labels), [], [], numbers.randrange(2, 5))
                keeping = [shape for shape in shapes if keeps_plainly(labels, first, plain_rows(shape))]
                for found, test in [
                    (least_kept(labels, first), lambda shape: True),
                    (least_stray(labels, first, second),
                     lambda shape: not keeps_plainly(labels, second, plain_rows(shape))),
                    (least_unlike(labels, first, sentence), lambda shape: not plain_holds(sentence, shape, {})),
                ]:
                    if found is not None and len(plain_paths(found)) > most:
                        found = None
                    self.assertEqual(found, first_with(keeping, test), (first, second, sentence))
                    sizes.append(None if found is None else len(plain_paths(found)))
            self.assertTrue({None, 0, 1, 2} <= set(sizes), set(sizes))

    def test_many_elements(self):
        self.assertEqual(least_kept(ONE, (spelled("a" * 290), (EMPTY,))), row_of("a" * 290))
        self.assertEqual(least_kept(TWO, (LETTER_A, (spelled("b" * 290), EMPTY))), ("a", row_of("b" * 290), ()))

    def test_four_hundred_elements_and_one_more(self):
        """A row of n items a, each with m items b inside, the items beside them c."""
        def schema(entries, inside, beside):
            return spelled("a" * entries + "c" * beside), (spelled("b" * inside), EMPTY, EMPTY)

        for entries, inside, beside in ((19, 20, 1), (19, 20, 2)):
            kept = schema(entries, inside, beside)
            unlike = read("not true")
            other = (NONE, (EMPTY, EMPTY, EMPTY))
            if beside == 1:
                shape = tree_of_rows([("a", [("b", [])] * inside)] * entries + [("c", [])] * beside)
                self.assertEqual(len(plain_paths(shape)), 400)
                self.assertEqual(least_kept(THREE, kept), shape)
                self.assertEqual(least_unlike(THREE, kept, unlike), shape)
                self.assertEqual(least_stray(THREE, kept, other), shape)
            else:
                self.assertRaises(TooLarge, least_kept, THREE, kept)
                self.assertRaises(TooLarge, least_unlike, THREE, kept, unlike)
                self.assertRaises(TooLarge, least_stray, THREE, kept, other)
                self.assertIsNone(least_stray(THREE, kept, kept))
        self.assertRaises(TooLarge, least_unlike, ONE, (("many", LETTER_A), (("many", LETTER_A),)),
                          ("not", read(f"some x: (top(x) and {full_tree(9)})")))


class RowsTest(unittest.TestCase):
    def test_they_turn_into_each_other(self):
        numbers = random.Random(173)
        for labels in (ONE, TWO, THREE):
            for size in range(30):
                shape = random_shape(numbers, (2, labels), size)
                rows = rows_of_tree(shape)
                self.assertEqual(rows, plain_rows(shape))
                self.assertEqual(tree_of_rows(rows), shape)

    def test_what_documents_tell(self):
        numbers = random.Random(174)
        document = Document(THREE)
        for _ in range(40):
            place = (0,)
            for _ in range(numbers.randrange(4)):
                if tree_of_rows(document.rows()):
                    place = (0,) * numbers.randrange(1, 4)
            try:
                document.insert(place, numbers.choice(THREE))
            except ValueError:
                document.insert((0,), "a")
            self.assertEqual(tree_of_rows(document.rows()), document.tree())
            self.assertEqual(rows_of_tree(document.tree()), document.rows())

    def test_by_hand(self):
        rows = [("a", [("b", []), ("a", [("a", [])])]), ("b", []), ("a", [("b", [])])]
        tree = ("a", ("b", (), ("a", ("a", (), ()), ())), ("b", (), ("a", ("b", (), ()), ())))
        self.assertEqual(tree_of_rows(rows), tree)
        self.assertEqual(rows_of_tree(tree), rows)
        self.assertEqual(tree_of_rows([]), ())
        self.assertEqual(rows_of_tree(()), [])

    def test_long_and_deep_rows(self):
        nest = []
        for _ in range(3000):
            nest = [("a", nest)]
        self.assertEqual(plain_text_of_spine(tree_of_rows(nest), 1), 3000)
        self.assertEqual(plain_text_of_spine(tree_of_rows([("a", [])] * 3000), 2), 3000)
        self.assertEqual(rows_of_tree(tree_of_rows([("a", [])] * 3000)), [("a", [])] * 3000)

    def test_the_rows_are_not_changed_and_are_new(self):
        rows = [("a", [("b", [])]), ("b", [])]
        old = copy.deepcopy(rows)
        tree_of_rows(rows)
        self.assertEqual(rows, old)
        tree = tree_of_rows(rows)
        found = rows_of_tree(tree)
        found[1][1].append(("a", []))
        found[0][1][0][1].append(("a", []))
        self.assertEqual(found, [("a", [("b", [("a", [])])]), ("b", [("a", [])])])
        found.clear()
        self.assertEqual(rows_of_tree(tree), old)
        rows_of_tree(()).append(("a", []))
        self.assertEqual(rows_of_tree(()), [])


def plain_text_of_spine(shape, step):
    """How long the way of first or second children is, if there are no others."""
    count = 0
    while shape:
        assert shape[3 - step] == ()
        shape = shape[step]
        count += 1
    return count


class ErrorsTest(unittest.TestCase):
    def refuse(self, error, labels, schema, right=ENTRIES):
        for function in (keeps_schema, least_unlike):
            self.assertRaises(error, function, labels, schema, () if function is keeps_schema else ("true",))
        for function in (schema_machine, least_kept):
            self.assertRaises(error, function, labels, schema)
        self.assertRaises(error, least_stray, labels, schema, right)
        self.assertRaises(error, least_stray, labels, right, schema)
        self.assertRaises(error, least_stray, labels, schema, schema)

    def test_the_labels_come_first(self):
        for kind in NO_KINDS:
            if len(kind) == 2 and kind[0] in (1, 2):
                for schema in (ENTRIES, (LETTER_A, ()), (("letter", "q"), (EMPTY, EMPTY)), (spelled("a" * 400), ())):
                    self.refuse(InvalidKind, kind[1], schema)

    def test_letters_that_are_no_labels(self):
        wrong = ("then", LETTER_A, ("many", ("letter", "c")))
        for schema in [(wrong, ENTRIES[1]), (ALL, (wrong, EMPTY)), (ALL, (EMPTY, wrong)), (wrong, ()),
                       (ALL, (EMPTY, EMPTY, wrong)), (spelled("a" * 400), (EMPTY, wrong))]:
            self.refuse(InvalidSentence, TWO, schema)

    def test_a_wrong_number_of_rules(self):
        for rules in ((), (EMPTY,), (EMPTY, EMPTY, EMPTY), (ALL, ALL, ALL, ALL), (spelled("a" * 400),)):
            self.refuse(InvalidSentence, TWO, (ALL, rules))
        self.refuse(InvalidSentence, ONE, (LETTER_A, (EMPTY, EMPTY)), (LETTER_A, (EMPTY,)))
        self.refuse(InvalidSentence, THREE, ENTRIES, (LETTER_A, (EMPTY, EMPTY, EMPTY)))

    def test_too_large(self):
        large = spelled("a" * 299)
        for schema in ((large, (EMPTY, EMPTY)), (ALL, (large, EMPTY)), (ALL, (EMPTY, large))):
            self.refuse(TooLarge, TWO, schema)
        # No expression alone has too many states here.
        cycles = [("many", ("either", spelled("a" * length), LETTER_B)) for length in (7, 11, 13)]
        self.assertRaises(TooLarge, schema_machine, TWO, (cycles[0], (cycles[1], cycles[2])))
        self.assertEqual(len(schema_machine(TWO, (cycles[0], (cycles[1], cycles[0])))[3]), 8 * 12)

    def test_wrong_sentences(self):
        for sentence in (("top", "x"), ("some", "x", ("label", "c", "x")), ("some", "x", ("child", 2, "x", "x")),
                         nested("not", 41), ("inside", "X", "X"), ("and", letter_at(9), ("top", "x"))):
            self.assertRaises(InvalidSentence, least_unlike, TWO, ENTRIES, sentence)
            self.assertRaises(InvalidKind, least_unlike, ("b", "a"), ENTRIES, sentence)
        self.assertRaises(TooLarge, least_unlike, TWO, ENTRIES, letter_at(9))


if __name__ == "__main__":
    unittest.main()
