"""treesays/expressions.py: expressions, the words that they tell, and their machines (points 24 and 25)."""

import itertools
import random
import unittest

from helper import (
    NO_KINDS, all_texts, balanced, inflated, letters_of, make_machine, plain_least, plain_mark, plain_state,
    plain_told, random_expression, random_machine, spelled, word,
)
from treesays.errors import InvalidKind, InvalidSentence, TooLarge
from treesays.expressions import check_expression, expression_machine, expression_of, tells
from treesays.machines import is_machine, least

A = (1, ("a",))
AB = (1, ("a", "b"))
ABC = (1, ("a", "b", "c"))
TREES = (2, ("a", "b"))

NONE, EMPTY = ("none",), ("empty",)
LETTER_A, LETTER_B = ("letter", "a"), ("letter", "b")
ANY = ("either", LETTER_A, LETTER_B)
ALL = ("many", ANY)

# Expressions, and the words that they tell up to a length of 3.
BY_HAND = [
    (NONE, ""), (EMPTY, "."), (LETTER_A, "a"), (LETTER_B, "b"),
    (("then", LETTER_A, LETTER_B), "ab"), (("then", LETTER_B, LETTER_A), "ba"), (("either", LETTER_A, LETTER_B), "a b"),
    (("many", LETTER_A), ". a aa aaa"), (("many", ("then", LETTER_A, LETTER_B)), ". ab"),
    (("then", LETTER_A, NONE), ""), (("then", NONE, LETTER_A), ""), (("then", LETTER_A, EMPTY), "a"),
    (("then", EMPTY, LETTER_A), "a"), (("either", NONE, LETTER_B), "b"), (("either", EMPTY, LETTER_B), ". b"),
    (("many", NONE), "."), (("many", EMPTY), "."), (("many", ("many", LETTER_B)), ". b bb bbb"),
    (("many", ("either", EMPTY, LETTER_B)), ". b bb bbb"), (("many", ("either", NONE, LETTER_B)), ". b bb bbb"),
    (("many", ("then", LETTER_A, NONE)), "."), (("many", ("then", LETTER_A, ("many", LETTER_B))),
                                                ". a aa ab aaa aab aba abb"),
    (("then", ("many", LETTER_A), ("many", LETTER_B)), ". a b aa ab bb aaa aab abb bbb"),
    (("then", ALL, LETTER_A), "a aa ba aaa aba baa bba"), (("then", LETTER_B, ALL), "b ba bb baa bab bba bbb"),
    (("then", ("many", NONE), ("either", LETTER_A, ("many", ("then", LETTER_B, LETTER_B)))), ". a bb"),
    (("then", ("then", LETTER_A, LETTER_B), LETTER_A), "aba"), (("then", LETTER_A, ("then", LETTER_B, LETTER_A)), "aba"),
    (("many", ("then", ("many", LETTER_A), LETTER_B)), ". b ab bb aab abb bab bbb"),
]


def deep(form, count, inside):
    """An expression in which a form stands around others so often."""
    expression = inside
    for _ in range(count):
        expression = (form, expression) if form == "many" else (form, expression, inside)
    return expression


def accepted(machine, text):
    return machine[3][plain_state(machine, plain_mark(word(text), []))]


class TellsTest(unittest.TestCase):
    def check(self, expression, labels, most):
        told = plain_told(expression, most)
        for text in all_texts(labels, most):
            self.assertIs(tells(expression, word(text)), text in told, (expression, text))

    def test_by_hand(self):
        for expression, words in BY_HAND:
            told = ["" if text == "." else text for text in words.split()]
            found = [text for text in all_texts("ab", 3) if tells(expression, word(text))]
            self.assertEqual(found, told, expression)

    def test_plain_matching(self):
        numbers = random.Random(160)
        for labels, most in (("a", 7), ("ab", 5), ("abc", 4)):
            for _ in range(250):
                self.check(random_expression(numbers, labels, numbers.randrange(1, 8)), labels, most)

    def test_each_form_in_each_form(self):
        simple = [NONE, EMPTY, LETTER_A, ("then", LETTER_A, LETTER_B), ("either", EMPTY, LETTER_B), ("many", LETTER_B)]
        double = [(form, one, other) for form in ("then", "either") for one in simple for other in simple]
        double += [("many", one) for one in simple]
        for expression in double + [("many", one) for one in double] + [("then", one, LETTER_A) for one in double]:
            self.check(expression, "ab", 4)

    def test_labels_that_do_not_stand_in_the_expression(self):
        self.assertIs(tells(("many", LETTER_A), word("aac")), False)
        self.assertIs(tells(("many", LETTER_A), word("c")), False)
        self.assertIs(tells(EMPTY, word("c")), False)

    def test_long_words(self):
        self.assertIs(tells(("then", ALL, ("then", LETTER_A, ALL)), word("b" * 2000)), False)
        self.assertIs(tells(("then", ALL, ("then", LETTER_A, ALL)), word("b" * 2000 + "a" + "b" * 2000)), True)
        self.assertIs(tells(("many", spelled("aab")), word("aab" * 1000)), True)
        self.assertIs(tells(("many", spelled("aab")), word("aab" * 1000 + "a")), False)

    def test_forty_deep(self):
        for form, inside, texts in [
            ("many", LETTER_A, ["", "a", "aaa"]), ("many", EMPTY, [""]), ("then", LETTER_A, ["a" * 40]),
            ("then", ("many", LETTER_A), ["", "a" * 7]), ("either", LETTER_A, ["a"]), ("either", NONE, []),
        ]:
            expression = deep(form, 39, inside)
            for text in ["", "a", "b", "aaa", "aab", "a" * 7, "a" * 39, "a" * 40, "a" * 41, "b" + "a" * 39]:
                told = text in texts or (inside in (LETTER_A, ("many", LETTER_A)) and form == "many" or
                                         inside == ("many", LETTER_A)) and "b" not in text
                self.assertIs(tells(expression, word(text)), told, (form, inside, text))
        nest = LETTER_A
        for _ in range(13):
            nest = ("many", ("then", nest, ("many", ANY)))
        self.assertIs(tells(nest, word("ab" * 200)), True)


class MachineTest(unittest.TestCase):
    def check(self, kind, expression, most):
        machine = expression_machine(kind, expression)
        self.assertTrue(is_machine(machine))
        self.assertEqual(machine[:2], (kind, 0))
        self.assertEqual(machine, least(machine))
        self.assertEqual(machine, plain_least(machine))
        told = plain_told(expression, most)
        for text in all_texts(kind[1], most):
            self.assertIs(accepted(machine, text), text in told, (expression, text))
        return machine

    def test_by_hand(self):
        for expression, _ in BY_HAND:
            for kind in (AB, ABC):
                self.check(kind, expression, 4)
        self.assertEqual(expression_machine(AB, NONE), (AB, 0, ((0,), (0,)), (False,)))
        self.assertEqual(expression_machine(AB, EMPTY), (AB, 0, ((1, 1), (1, 1)), (True, False)))
        self.assertEqual(expression_machine(AB, LETTER_B), (AB, 0, ((1, 1, 1), (2, 1, 1)), (False, False, True)))
        self.assertEqual(expression_machine(AB, ALL), (AB, 0, ((0,), (0,)), (True,)))
        self.assertEqual(expression_machine(A, ("many", LETTER_A)), (A, 0, ((0,),), (True,)))

    def test_random_expressions(self):
        numbers = random.Random(161)
        sizes = set()
        for kind, most in ((A, 7), (AB, 5), (ABC, 4)):
            for _ in range(200):
                expression = random_expression(numbers, kind[1], numbers.randrange(1, 8))
                sizes.add(len(self.check(kind, expression, most)[3]))
        self.assertTrue(set(range(1, 8)) <= sizes, sizes)

    def test_all_words_are_told_as_tells_tells(self):
        numbers = random.Random(162)
        for _ in range(60):
            expression = random_expression(numbers, "ab", 7)
            machine = expression_machine(AB, expression)
            for _ in range(20):
                text = "".join(numbers.choice("ab") for _ in range(numbers.randrange(30)))
                self.assertIs(accepted(machine, text), tells(expression, word(text)))

    def test_long_words_and_the_bound(self):
        """A word with n letters needs n + 2 states; 300 of them are not too many."""
        for kind in (A, AB):
            for length in (250, 298):
                machine = expression_machine(kind, spelled("a" * length))
                self.assertEqual(len(machine[3]), length + 2)
                self.assertIs(accepted(machine, "a" * length), True)
                self.assertIs(accepted(machine, "a" * (length - 1)), False)
            for length in (299, 300, 700):
                self.assertRaises(TooLarge, expression_machine, kind, spelled("a" * length))
        counted = expression_machine(A, ("many", spelled("a" * 290)))
        self.assertEqual(len(counted[3]), 290)

    def test_letters_far_from_the_end(self):
        """A machine reads from the end; a letter so far from the beginning has to be known of each place."""
        for count, states in ((3, 16), (7, 256), (8, None), (12, None)):
            expression = ("then", balanced("then", [ANY] * count + [LETTER_A]), ALL)
            if states is None:
                self.assertRaises(TooLarge, expression_machine, AB, expression)
            else:
                self.assertEqual(len(expression_machine(AB, expression)[3]), states)
            turned = ("then", ALL, balanced("then", [LETTER_A] + [ANY] * count))
            self.assertEqual(len(expression_machine(AB, turned)[3]), count + 3)

    def test_parts_that_are_not_too_large_together(self):
        """Pairs of states on the way, most of which are alike in the end."""
        many = [("many", spelled("a" * length)) for length in (7, 11, 13)]
        self.assertEqual(len(expression_machine(A, ("either", many[0], many[1]))[3]), 77)
        self.assertRaises(TooLarge, expression_machine, A, ("either", ("either", many[0], many[1]), many[2]))
        self.assertEqual(len(expression_machine(A, ("either", ("either", many[0], many[1]), ("many", LETTER_A)))[3]), 1)

    def test_forty_deep(self):
        for form in ("many", "then", "either"):
            for inside in (LETTER_A, EMPTY, NONE, ("many", LETTER_B)):
                self.check(AB, deep(form, 38, inside), 3)
        self.assertEqual(len(expression_machine(AB, deep("then", 39, LETTER_A))[3]), 42)


class ExpressionOfTest(unittest.TestCase):
    def check_forms(self, expression, labels):
        """It consists of the forms of point 24."""
        form = expression[0]
        if form == "letter":
            self.assertEqual(len(expression), 2)
            self.assertIn(expression[1], labels)
            return 1
        self.assertIn(form, ("none", "empty", "then", "either", "many"))
        self.assertEqual(len(expression), {"none": 1, "empty": 1, "many": 2}.get(form, 3))
        return 1 + max([self.check_forms(part, labels) for part in expression[1:]], default=0)

    def check(self, machine, most):
        kind = machine[0]
        expression = expression_of(machine)
        check_expression(kind, expression)
        self.assertLessEqual(self.check_forms(expression, kind[1]), 40)
        for text in all_texts(kind[1], most):
            self.assertIs(tells(expression, word(text)), accepted(machine, text), (machine, text))
        self.assertEqual(expression_machine(kind, expression), plain_least(machine))

    def test_random_machines(self):
        numbers = random.Random(163)
        for kind, most in ((A, 8), (AB, 5), (ABC, 3)):
            for states in (1, 2, 3, 4, 5):
                for _ in range(25):
                    self.check(random_machine(numbers, kind, 0, states), most)

    def test_machines_in_which_all_states_lead_to_each_other(self):
        for good in range(5):
            rows = ((1, 2, 3, 4, 0), (4, 0, 1, 2, 3), (2, 0, 4, 1, 3))
            self.check((ABC, 0, rows, tuple(state == good for state in range(5))), 4)
            self.check((ABC, 0, rows[::-1], tuple(state != good for state in range(5))), 4)

    def test_all_machines_with_two_states(self):
        for bits in itertools.product((0, 1), repeat=4):
            for good in itertools.product((False, True), repeat=2):
                self.check((AB, 0, (bits[:2], bits[2:]), good), 4)

    def test_by_hand(self):
        for kind in (A, AB, ABC):
            never = make_machine(kind, 0, 1, lambda sign, states: 0, [])
            always = make_machine(kind, 0, 1, lambda sign, states: 0, [0])
            empty = make_machine(kind, 0, 2, lambda sign, states: 1, [0])
            for machine in (never, always, empty):
                self.check(machine, 4)
                self.check(inflated(random.Random(164), machine, 1), 3)

    def test_the_order_of_letters(self):
        """What is read first stands last."""
        machine = expression_machine(AB, ("then", LETTER_A, LETTER_B))
        self.assertEqual(len(machine[3]), 4)
        found = expression_of(machine)
        self.assertEqual([text for text in all_texts("ab", 4) if tells(found, word(text))], ["ab"])
        self.assertEqual(letters_of(word("ab")), "ab")

    def test_trees(self):
        for states in (1, 5, 6, 10):
            machine = make_machine(TREES, 0, states, lambda sign, states: 0, [0])
            self.assertRaises(InvalidKind, expression_of, machine)

    def test_too_large(self):
        for kind in (A, AB, ABC):
            for states in (6, 7, 300):
                self.assertRaises(
                    TooLarge, expression_of,
                    make_machine(kind, 0, states, lambda sign, some: (some[0] + 1) % states, [0]))


class ErrorsTest(unittest.TestCase):
    def refuse(self, error, kind, expression):
        self.assertRaises(error, check_expression, kind, expression)
        self.assertRaises(error, expression_machine, kind, expression)

    def test_right_expressions(self):
        for kind in (A, AB, ABC):
            for expression in (NONE, EMPTY, LETTER_A, deep("many", 39, LETTER_A), spelled("a" * 400)):
                self.assertIsNone(check_expression(kind, expression))
        self.assertIsNone(check_expression(AB, ALL))

    def test_the_kind_comes_first(self):
        for kind in NO_KINDS + [TREES, (2, ("a",)), (2, ("a", "b", "c"))]:
            for expression in (NONE, LETTER_A, ("letter", "q"), ("then", LETTER_A, ("letter", "q")), spelled("a" * 400)):
                self.refuse(InvalidKind, kind, expression)

    def test_letters_that_are_no_labels(self):
        for letter in ("c", "q", "A", "", "ab", "1"):
            wrong = ("letter", letter)
            for expression in (wrong, ("many", wrong), ("then", LETTER_A, wrong), ("then", wrong, LETTER_A),
                               ("either", wrong, EMPTY), ("either", NONE, ("many", ("then", NONE, wrong))),
                               ("then", spelled("a" * 400), wrong)):
                self.refuse(InvalidSentence, AB, expression)


if __name__ == "__main__":
    unittest.main()
