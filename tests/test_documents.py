"""treesays/documents.py: documents, their edits, and what stands while they are edited (points 22 and 23)."""

import copy
import random
import unittest

from helper import NO_KINDS, letter_at, nested, plain_at, plain_free, plain_holds, plain_paths, random_formula
from treesays.documents import Document
from treesays.errors import (
    InvalidKind, InvalidSentence, InvalidShape, NoSuchElement, SayError, TooLarge, UnknownQuestion,
)
from treesays.questions import answers
from treesays.reading import read_formula

AB = ("a", "b")
ABC = ("a", "b", "c")

# Places that are there in no document of these tests.
NOWHERE = [(), (-1,), (99,), (0, -1), (-1, 0), (0, 99), (99, 0), (0, 0, 0, 0, 0, 0, 0, 0, 0), (10 ** 30,)]


def read(text):
    return read_formula(text)


def plain_tree(rows):
    """Point 22, word by word."""
    tree = ()
    for label, inside in reversed(rows):
        tree = (label, plain_tree(inside), tree)
    return tree


def places_of(rows, around=()):
    """The places of all items, in ascending order."""
    found = []
    for number, (_, inside) in enumerate(rows):
        found += [around + (number,)] + places_of(inside, around + (number,))
    return found


def path_of(place):
    """The path in the tree of the item at a place."""
    path = ()
    for depth, number in enumerate(place):
        path += (0,) * (depth > 0) + (1,) * number
    return path


def row_around(rows, place):
    """The row in which a place is."""
    if not place:
        raise NoSuchElement
    for number in place[:-1]:
        if not 0 <= number < len(rows):
            raise NoSuchElement
        rows = rows[number][1]
    return rows


class PlainDocument:
    """A document that does each edit to its rows and keeps nothing else."""

    def __init__(self, labels):
        self.labels = labels
        self.items = []

    def insert(self, place, label):
        row = row_around(self.items, place)
        if not 0 <= place[-1] <= len(row):
            raise NoSuchElement
        if label not in self.labels:
            raise InvalidShape
        row.insert(place[-1], (label, []))

    def row_with(self, place):
        row = row_around(self.items, place)
        if not 0 <= place[-1] < len(row):
            raise NoSuchElement
        return row

    def remove(self, place):
        del self.row_with(place)[place[-1]]

    def relabel(self, place, label):
        row = self.row_with(place)
        if label not in self.labels:
            raise InvalidShape
        row[place[-1]] = (label, row[place[-1]][1])

    def move(self, place, goal):
        item = self.row_with(place).pop(place[-1])
        row = row_around(self.items, goal)
        if not 0 <= goal[-1] <= len(row):
            raise NoSuchElement
        row.insert(goal[-1], item)

    def label(self, place):
        return self.row_with(place)[place[-1]][0]


def build(document, rows, around=()):
    """Put rows into a document."""
    for number, (label, inside) in enumerate(rows):
        document.insert(around + (number,), label)
        build(document, inside, around + (number,))
    return document


SAMPLE = [("a", [("b", []), ("a", [("a", [])])]), ("b", []), ("a", [("b", [])])]


def sample():
    return build(Document(AB), SAMPLE)


class EditTest(unittest.TestCase):
    def check(self, document, rows):
        self.assertEqual(document.rows(), rows)
        self.assertEqual(document.tree(), plain_tree(rows))

    def test_the_empty_document(self):
        for labels in (("a",), AB, ABC):
            document = Document(labels)
            self.check(document, [])
            for place in [(0,), (0, 0), (1,), *NOWHERE]:
                self.assertRaises(NoSuchElement, document.label, place)
                self.assertRaises(NoSuchElement, document.remove, place)
                self.assertRaises(NoSuchElement, document.relabel, place, "a")
                self.assertRaises(NoSuchElement, document.move, place, (0,))

    def test_wrong_labels(self):
        for kind in NO_KINDS:
            if len(kind) == 2 and kind[0] in (1, 2):
                self.assertRaises(InvalidKind, Document, kind[1])

    def test_insert(self):
        document = Document(AB)
        document.insert((0,), "a")
        self.check(document, [("a", [])])
        document.insert((1,), "b")
        self.check(document, [("a", []), ("b", [])])
        document.insert((0,), "b")
        self.check(document, [("b", []), ("a", []), ("b", [])])
        document.insert((1, 0), "a")
        self.check(document, [("b", []), ("a", [("a", [])]), ("b", [])])
        document.insert((1, 1), "b")
        document.insert((1, 0), "b")
        document.insert((1, 2, 0), "a")
        self.check(document, [("b", []), ("a", [("b", []), ("a", []), ("b", [("a", [])])]), ("b", [])])
        document.insert((3,), "a")
        self.check(document, [("b", []), ("a", [("b", []), ("a", []), ("b", [("a", [])])]), ("b", []), ("a", [])])

    def test_remove(self):
        for place, rows in [
            ((0,), SAMPLE[1:]), ((1,), [SAMPLE[0], SAMPLE[2]]), ((2,), SAMPLE[:2]),
            ((0, 0), [("a", [("a", [("a", [])])]), *SAMPLE[1:]]), ((0, 1), [("a", [("b", [])]), *SAMPLE[1:]]),
            ((0, 1, 0), [("a", [("b", []), ("a", [])]), *SAMPLE[1:]]), ((2, 0), [*SAMPLE[:2], ("a", [])]),
        ]:
            document = sample()
            document.remove(place)
            self.check(document, rows)

    def test_relabel(self):
        document = sample()
        document.relabel((0, 1), "b")
        document.relabel((2,), "b")
        document.relabel((1,), "b")
        self.check(document, [("a", [("b", []), ("b", [("a", [])])]), ("b", []), ("b", [("b", [])])])

    def test_label(self):
        document = sample()
        self.assertEqual([document.label(place) for place in places_of(SAMPLE)], list("abaabab"))

    def test_move(self):
        for place, goal, rows in [
            ((0,), (0,), SAMPLE), ((0,), (2,), SAMPLE[1:] + SAMPLE[:1]), ((2,), (0,), SAMPLE[2:] + SAMPLE[:2]),
            ((1,), (0, 0), [("a", [("b", []), ("b", []), ("a", [("a", [])])]), SAMPLE[2]]),
            ((0, 1), (3,), [("a", [("b", [])]), *SAMPLE[1:], ("a", [("a", [])])]),
            ((0, 1, 0), (0, 0, 0), [("a", [("b", [("a", [])]), ("a", [])]), *SAMPLE[1:]]),
            # There only when the item is taken out: inside of what was behind it.
            ((0,), (0, 0), [("b", [SAMPLE[0]]), SAMPLE[2]]), ((0,), (1, 1), [("b", []), ("a", [("b", []), SAMPLE[0]])]),
            ((0, 0), (0, 0, 1), [("a", [("a", [("a", []), ("b", [])])]), *SAMPLE[1:]]),
            ((1,), (1, 1), [SAMPLE[0], ("a", [("b", []), ("b", [])])]),
        ]:
            document = sample()
            document.move(place, goal)
            self.check(document, rows)

    def test_move_to_a_place_that_is_there_only_before(self):
        for place, goal in [
            ((0,), (3,)), ((2,), (3,)), ((0,), (2, 0)), ((2,), (2, 0)), ((2,), (2, 1)), ((0, 1), (0, 2)),
            ((0, 1), (0, 1, 0)), ((0, 1, 0), (0, 1, 1)), ((2, 0), (2, 1)), ((2, 0), (2, 0, 0)), ((0,), (0, 1, 0)),
        ]:
            document = sample()
            self.assertRaises(NoSuchElement, document.move, place, goal)
            self.check(document, SAMPLE)

    def test_wrong_places(self):
        """Those in rows, behind rows, and in rows of items that are not there."""
        document = sample()
        there = places_of(SAMPLE)
        ends = [(3,), (0, 2), (0, 0, 0), (0, 1, 1), (0, 1, 0, 0), (1, 0), (2, 1), (2, 0, 0)]
        for place in ends + NOWHERE + [(4,), (0, 3), (1, 1), (1, 0, 0), (3, 0), (0, 2, 0)]:
            for method, more in ((document.remove, ()), (document.label, ()), (document.relabel, ("a",)),
                                 (document.relabel, ("q",)), (document.move, ((0,),)), (document.move, ((99,),))):
                self.assertRaises(NoSuchElement, method, place, *more)
            if place not in ends:
                for label in "aq":
                    self.assertRaises(NoSuchElement, document.insert, place, label)
                self.assertRaises(NoSuchElement, document.move, (2,), place)
        self.check(document, SAMPLE)
        for place in ends + there:
            document = sample()
            document.insert(place, "b")
            rows = copy.deepcopy(SAMPLE)
            row_around(rows, place).insert(place[-1], ("b", []))
            self.check(document, rows)

    def test_wrong_labels_come_behind_wrong_places(self):
        document = sample()
        for label in ("c", "", "A", "ab", "1"):
            for place in ((0,), (3,), (0, 1), (1, 0)):
                self.assertRaises(InvalidShape, document.insert, place, label)
            for place in places_of(SAMPLE):
                self.assertRaises(InvalidShape, document.relabel, place, label)
            self.assertRaises(NoSuchElement, document.insert, (4,), label)
            self.assertRaises(NoSuchElement, document.relabel, (3,), label)
        self.check(document, SAMPLE)

    def test_many_edits(self):
        numbers = random.Random(150)
        for labels in (("a",), AB, ABC):
            for _ in range(12):
                self.edit_often(numbers, labels, 60)

    def edit_often(self, numbers, labels, count):
        document, plain = Document(labels), PlainDocument(labels)
        raised = 0
        for _ in range(count):
            there = places_of(plain.items)
            near = there + [place[:-1] + (place[-1] + 1,) for place in there] + [place + (0,) for place in there]
            place, goal = [numbers.choice(near + [(0,), (1,)] + NOWHERE) for _ in range(2)]
            label = numbers.choice(labels * 4 + ("q",))
            name = numbers.choice(["insert", "insert", "insert", "remove", "relabel", "move", "label"])
            arguments = {"insert": (place, label), "relabel": (place, label), "move": (place, goal)}.get(name, (place,))
            old = copy.deepcopy(plain.items)
            try:
                expected = getattr(plain, name)(*arguments)
            except SayError as error:
                plain.items = old
                raised += 1
                self.assertRaises(type(error), getattr(document, name), *arguments)
            else:
                self.assertEqual(getattr(document, name)(*arguments), expected)
            self.check(document, plain.items)
        self.assertGreater(raised, 3)

    def test_long_and_deep_rows(self):
        document = Document(AB)
        for _ in range(2000):
            document.insert((0,), "a")
        document.insert((2000,), "b")
        self.assertEqual(document.label((2000,)), "b")
        self.assertEqual(len(document.rows()), 2001)
        for depth in range(1, 600):
            document.insert((5,) + (0,) * depth, "b")
        document.move((5, 0), (0,))
        self.assertEqual(document.label((0,) * 599), "b")
        self.assertRaises(NoSuchElement, document.label, (0,) * 600)
        document.remove((0,))
        self.assertEqual(document.rows(), [("a", [])] * 2000 + [("b", [])])


class StandingTest(unittest.TestCase):
    def expect(self, document, formula):
        """The answer that point 23 tells, by the tree."""
        kind = (2, AB)
        tree = document.tree()
        if not plain_free(formula):
            return bool(plain_holds(formula, tree, {}))
        name, = plain_free(formula)
        return [
            place for place in places_of(document.rows())
            if plain_holds(formula, tree, {name: path_of(place)})
        ]

    def test_by_hand(self):
        document = sample()
        document.stand("b", read("label b(x)"))
        document.stand("inside of an a", read("some y: (label a(y) and some z: (child 0(y, z) and "
                                              "(same(z, x) or child 1(z, x))))"))
        document.stand("last", read("not some y: child 1(x, y)"))
        document.stand("", read("some x: some y: (child 0(x, y) and label b(y))"))
        self.assertEqual(document.ask("b"), [(0, 0), (1,), (2, 0)])
        self.assertEqual(document.ask("inside of an a"), [(0, 0), (0, 1), (0, 1, 0), (2, 0)])
        self.assertEqual(document.ask("last"), [(0, 1), (0, 1, 0), (2,), (2, 0)])
        self.assertIs(document.ask(""), True)
        document.relabel((0, 0), "a")
        document.remove((2, 0))
        self.assertEqual(document.ask("b"), [(1,)])
        self.assertEqual(document.ask("inside of an a"), [(0, 0), (0, 1), (0, 1, 0)])
        self.assertIs(document.ask(""), False)
        document.move((0, 1), (1, 0))
        self.assertEqual(document.ask("last"), [(0, 0), (1, 0), (1, 0, 0), (2,)])
        self.assertEqual(document.ask("inside of an a"), [(0, 0), (1, 0, 0)])

    def test_the_empty_document(self):
        document = Document(AB)
        document.stand("q", read("top(x)"))
        document.stand("s", read("all x: label a(x)"))
        document.stand("t", read("some x: true"))
        self.assertEqual((document.ask("q"), document.ask("s"), document.ask("t")), ([], True, False))
        document.insert((0,), "b")
        self.assertEqual((document.ask("q"), document.ask("s"), document.ask("t")), ([(0,)], False, True))
        document.remove((0,))
        self.assertEqual((document.ask("q"), document.ask("s"), document.ask("t")), ([], True, False))

    def test_random_formulas_and_edits(self):
        numbers = random.Random(151)
        asked = 0
        for _ in range(40):
            document = Document(AB)
            standing = {}
            for _ in range(14):
                there = places_of(document.rows())
                if numbers.random() < 0.4 or not standing:
                    name = numbers.choice("pqr")
                    free = numbers.choice([[], ["x"], ["y"]])
                    standing[name] = random_formula(numbers, (2, AB), free, [], numbers.randrange(1, 5))
                    self.assertIsNone(document.stand(name, standing[name]))
                if len(there) > 5:
                    document.remove(numbers.choice(there))
                elif there and numbers.random() < 0.3:
                    document.relabel(numbers.choice(there), numbers.choice(AB))
                elif len(there) > 1 and numbers.random() < 0.4:
                    place = numbers.choice(there)
                    goal = numbers.choice(there)
                    try:
                        document.move(place, goal)
                    except NoSuchElement:
                        pass
                else:
                    place = numbers.choice([(0,)] + [place + (0,) for place in there])
                    document.insert(place, numbers.choice(AB))
                if numbers.random() < 0.7:
                    for name, formula in standing.items():
                        self.assertEqual(document.ask(name), self.expect(document, formula), (formula, document.rows()))
                        asked += 1
        self.assertGreater(asked, 300)

    def test_larger_documents(self):
        """Against the answers of questions about the tree, with places instead of paths."""
        numbers = random.Random(152)
        document = Document(AB)
        questions = {
            "b": "label b(x)", "below b": "some y: (below(y, x) and label b(y))",
            "first of two": "some y: (child 1(x, y) and not some z: child 1(y, z))",
            "even": "some X: (all y: (in(y, X) and not some z: (child 0(y, z) and in(z, X)) or not in(y, X) and "
                    "some z: (child 0(y, z) and in(z, X))) and in(x, X))",
            "some a is below": "some y: (below(x, y) and label a(y) and not child 0(x, y))",
        }
        for name, text in questions.items():
            document.stand(name, read(text))
        for step in range(150):
            there = places_of(document.rows())
            place = numbers.choice([(0,)] + there + [place + (0,) for place in there] * 2)
            if step % 3 == 2:
                document.relabel(numbers.choice(there), numbers.choice(AB))
            elif step % 7 == 6:
                document.move(numbers.choice(there), (0,))
            else:
                document.insert(place, numbers.choice(AB))
            for name in questions if step % 10 == 0 else (numbers.choice(list(questions)),):
                paths = answers((2, AB), read(questions[name]), document.tree())
                self.assertEqual([path_of(place) for place in document.ask(name)], paths)
        self.assertGreater(len(there), 50)

    def test_one_that_has_the_name_is_forgotten(self):
        document = sample()
        document.stand("n", read("label a(x)"))
        self.assertEqual(document.ask("n"), [(0,), (0, 1), (0, 1, 0), (2,)])
        document.stand("n", read("label b(x)"))
        self.assertEqual(document.ask("n"), [(0, 0), (1,), (2, 0)])
        document.stand("n", read("some x: label b(x)"))
        self.assertIs(document.ask("n"), True)
        document.stand("n", read("label a(y)"))
        self.assertEqual(document.ask("n"), [(0,), (0, 1), (0, 1, 0), (2,)])

    def test_several_stand_beside_each_other(self):
        document = sample()
        document.stand("n", read("label a(x)"))
        document.stand("m", read("not label a(x)"))
        for place in ((0,), (1,), (0, 1, 0)):
            document.relabel(place, "b")
            self.assertEqual(sorted(document.ask("n") + document.ask("m")), places_of(SAMPLE))

    def test_unknown_questions(self):
        document = sample()
        self.assertRaises(UnknownQuestion, document.ask, "n")
        document.stand("n", read("label a(x)"))
        for name in ("", "m", "N", "n "):
            self.assertRaises(UnknownQuestion, document.ask, name)
        self.assertRaises(UnknownQuestion, Document(AB).ask, "n")

    def test_what_cannot_stand(self):
        document = sample()
        document.stand("n", read("label a(x)"))
        for formula in (
            read("below(x, y)"), read("inside(X, X)"), read("in(x, X)"), read("some x: in(x, X)"),
            read("top(x) and label a(y)"), ("label", "c", "x"), ("some", "x", ("label", "q", "x")),
            ("child", 2, "x", "x"), nested("not", 41), ("and", ("in", "x", "X"), letter_at(9)),
        ):
            for name in ("n", "m"):
                self.assertRaises(InvalidSentence, document.stand, name, formula)
        for formula in (letter_at(9), ("and", ("top", "x"), letter_at(9))):
            for name in ("n", "m"):
                self.assertRaises(TooLarge, document.stand, name, formula)
        self.assertRaises(UnknownQuestion, document.ask, "m")
        self.assertEqual(document.ask("n"), [(0,), (0, 1), (0, 1, 0), (2,)])

    def test_answers_may_be_spoilt(self):
        document = sample()
        document.stand("n", read("label a(x)"))
        for _ in range(3):
            found = document.ask("n")
            self.assertEqual(found, [(0,), (0, 1), (0, 1, 0), (2,)])
            found.append((7,))
            del found[0]
            rows = document.rows()
            self.assertEqual(rows, SAMPLE)
            rows[0][1][1][1].clear()
            rows[1][1].append(("b", []))
            del rows[2]
        self.assertEqual(document.tree(), plain_tree(SAMPLE))
        lists = [document.rows()]
        for row in lists:
            lists += [inside for _, inside in row]
        self.assertEqual(len({id(row) for row in lists}), len(lists))

    def test_two_documents_do_not_touch_each_other(self):
        first, second = sample(), sample()
        first.stand("n", read("label a(x)"))
        self.assertRaises(UnknownQuestion, second.ask, "n")
        second.stand("n", read("label b(x)"))
        first.remove((0,))
        self.assertEqual(first.ask("n"), [(1,)])
        self.assertEqual(second.ask("n"), [(0, 0), (1,), (2, 0)])
        self.assertEqual(second.rows(), SAMPLE)
        self.assertEqual((first.looked() > 0, second.looked() > 0), (True, True))
        first.ask("n")
        second.relabel((0,), "b")
        self.assertEqual(first.looked(), 0)


class LookedTest(unittest.TestCase):
    def test_nothing_is_looked_at_again(self):
        document = sample()
        self.assertEqual(document.looked(), 0)
        for name, text in (("q", "label a(x)"), ("s", "some x: label b(x)"), ("r", "some y: below(x, y)")):
            document.stand(name, read(text))
        for name in "qsr":
            first = document.ask(name)
            self.assertGreater(document.looked(), 0)
            self.assertEqual(document.ask(name), first)
            self.assertEqual(document.looked(), 0)
        for name in "qsrqsr":
            document.ask(name)
        self.assertEqual(document.looked(), 0)

    def test_looked_begins_anew(self):
        document = sample()
        document.stand("q", read("label a(x)"))
        document.ask("q")
        document.ask("q")
        self.assertEqual(document.looked(), 7)
        self.assertEqual(document.looked(), 0)

    def test_random_edits(self):
        numbers = random.Random(153)
        document = sample()
        document.stand("q", read("some y: (below(y, x) and label b(y))"))
        document.stand("s", read("some x: some y: (child 0(x, y) and label b(y))"))
        for _ in range(60):
            document.relabel(numbers.choice(places_of(SAMPLE)), numbers.choice(AB))
            for name in "qs":
                first = document.ask(name)
                document.looked()
                self.assertEqual(document.ask(name), first)
                document.rows()
                document.tree()
                document.label((0,))
                self.assertEqual(document.ask(name), first)
                self.assertEqual(document.looked(), 0)

    def test_a_call_that_raises_an_error_leads_to_no_look(self):
        document = sample()
        document.stand("q", read("label a(x)"))
        document.stand("s", read("some x: label b(x)"))
        document.ask("q")
        document.ask("s")
        document.looked()
        for error, method, arguments in [
            (NoSuchElement, document.insert, ((4,), "a")), (InvalidShape, document.insert, ((3,), "c")),
            (NoSuchElement, document.remove, ((3,),)), (InvalidShape, document.relabel, ((0,), "c")),
            (NoSuchElement, document.move, ((0,), (3,))), (NoSuchElement, document.move, ((0,), (0, 1, 0))),
            (InvalidSentence, document.stand, ("q", read("below(x, y)"))), (TooLarge, document.stand, ("q", letter_at(9))),
            (UnknownQuestion, document.ask, ("x",)), (NoSuchElement, document.label, ((3,),)),
        ]:
            self.assertRaises(error, method, *arguments)
            self.assertEqual(document.ask("q"), [(0,), (0, 1), (0, 1, 0), (2,)])
            self.assertIs(document.ask("s"), True)
            self.assertEqual(document.looked(), 0)

    def test_items_whose_answers_change_are_looked_at(self):
        """An edit ahead of them changes nothing of their parts, but what is asked of them."""
        document = build(Document(AB), [("a", [])] * 40)
        document.stand("q", read("some y: (below(y, x) and label b(y))"))
        self.assertEqual(document.ask("q"), [])
        document.looked()
        document.relabel((0,), "b")
        self.assertEqual(document.ask("q"), [(number,) for number in range(1, 40)])
        self.assertEqual(document.looked(), 40)

    def test_parts_that_an_edit_does_not_reach(self):
        """In the tree, an edit reaches the elements above it alone."""
        document = Document(AB)
        for _ in range(300):
            document.insert((0,), "a")
        for number in range(0, 300, 3):
            document.insert((number, 0), "a")
        document.stand("s", read("some x: (label b(x) and some y: child 0(x, y))"))
        document.stand("q", read("label b(x) and some y: child 0(x, y)"))
        self.assertEqual((document.ask("s"), document.ask("q")), (False, []))
        self.assertEqual(document.looked(), 400)
        for place in ((0,), (2,), (3, 0), (9,), (30,), (30, 0)):
            for label in "ba":
                document.relabel(place, label)
                above = len(path_of(place)) + 1
                document.ask("s")
                self.assertLessEqual(document.looked(), above)
                document.ask("q")
                self.assertLessEqual(document.looked(), above)
        document.remove((1,))
        document.insert((0,), "b")
        document.move((2,), (0,))
        self.assertEqual((document.ask("s"), document.ask("q")), (False, []))
        self.assertLess(document.looked(), 12)
        self.assertEqual(plain_at(document.tree(), ())[0], "a")
        self.assertEqual(len(plain_paths(document.tree())), 400)


if __name__ == "__main__":
    unittest.main()
