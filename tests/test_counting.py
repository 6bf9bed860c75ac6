"""treesays/counting.py: counts and recurrences (point 18)."""

import random
import unittest
from fractions import Fraction

from helper import (
    NO_KINDS, letter_at, make_machine, nested, plain_holds, plain_mark, plain_shapes, plain_signs, plain_state,
    random_formula, random_machine,
)
from treesays.counting import counts, keeps, recurrence
from treesays.errors import InvalidKind, InvalidSentence, TooLarge
from treesays.fitting import is_kept, least_recurrence, recurrence_modulo
from treesays.making import machine_of
from treesays.reading import read_formula

A = (1, ("a",))
AB = (1, ("a", "b"))
ABC = (1, ("a", "b", "c"))
TREES = (2, ("a", "b"))
TREE_A = (2, ("a",))

NO_TWO_B = "all x: all y: (not child 0(x, y) or not (label b(x) and label b(y)))"


def read(text):
    return read_formula(text)


def all_numbers(kind, size):
    """How many shapes there are of each size."""
    numbers = [1]
    for n in range(size):
        if kind[0] == 1:
            numbers.append(len(kind[1]) * numbers[-1])
        else:
            numbers.append(len(kind[1]) * sum(numbers[k] * numbers[n - k] for k in range(n + 1)))
    return numbers


def plain_counts(machine, size):
    """How many marked words a machine accepts, by going through its table sign by sign."""
    level = {0: 1}
    found = []
    for _ in range(size + 1):
        found.append(sum(many for state, many in level.items() if machine[3][state]))
        larger = {}
        for state, many in level.items():
            for row in machine[2]:
                larger[row[state]] = larger.get(row[state], 0) + many
        level = larger
    return found


def told_by(terms, numbers, place):
    """What a recurrence tells of the term at a place."""
    return sum(number * terms[place - 1 - k] for k, number in enumerate(numbers))


def is_kept_plainly(terms, numbers):
    return all(terms[place] == told_by(terms, numbers, place) for place in range(len(numbers), len(terms)))


def plain_least(terms):
    """The least recurrence with rational numbers, by solving equations for each length."""
    for length in range(len(terms) // 2 + 1):
        rows = [[Fraction(terms[n + length - 1 - k]) for k in range(length)] + [Fraction(terms[n + length])]
                for n in range(len(terms) - length)]
        solved = solve(rows, length)
        if solved is not None:
            return solved


def solve(rows, length):
    """The numbers that solve the equations, or None."""
    done = 0
    for column in range(length):
        place = next((k for k in range(done, len(rows)) if rows[k][column]), None)
        if place is None:
            continue
        rows[done], rows[place] = rows[place], rows[done]
        rows[done] = [number / rows[done][column] for number in rows[done]]
        for k in range(len(rows)):
            if k != done:
                times = rows[k][column]
                rows[k] = [one - times * other for one, other in zip(rows[k], rows[done])]
        done += 1
    if any(row[-1] for row in rows[done:]):
        return None
    assert done == length
    return tuple(row[-1] for row in rows[:length])


class CountsTest(unittest.TestCase):
    def test_the_example(self):
        self.assertEqual(counts(AB, read(NO_TWO_B), 5), [1, 2, 3, 5, 8, 13])

    def test_by_hand(self):
        for kind, text, numbers in [
            (A, "true", [1, 1, 1, 1]), (AB, "true", [1, 2, 4, 8]), (ABC, "true", [1, 3, 9, 27]),
            (TREE_A, "true", [1, 1, 2, 5, 14, 42]), (TREES, "true", [1, 2, 8, 40]), (AB, "not true", [0, 0, 0, 0]),
            (TREES, "not true", [0, 0, 0]), (AB, "some x: true", [0, 2, 4, 8]), (AB, "all x: label a(x)", [1, 1, 1]),
            (AB, "some x: some y: (child 0(x, y) and not some z: below(y, z))", [0, 0, 4, 8, 16]),
            (AB, "all x: (top(x) and label b(x))", [1, 1, 0, 0]),
            (TREE_A, "all x: not some y: child 0(x, y)", [1, 1, 1, 1, 1]),
            (TREE_A, "all x: (some y: child 0(x, y) and some y: child 1(x, y) or not some y: below(x, y))",
             [1, 1, 0, 1, 0, 2, 0, 5]),
        ]:
            self.assertEqual(counts(kind, read(text), len(numbers) - 1), numbers, (kind, text))

    def test_all_shapes_of_small_sizes(self):
        numbers = random.Random(120)
        for kind, most in ((A, 5), (AB, 4), (ABC, 3), (TREE_A, 4), (TREES, 3)):
            shapes = [plain_shapes(kind[0], kind[1], size) for size in range(most + 1)]
            seen = set()
            for _ in range(80):
                sentence = random_formula(numbers, kind, [], [], numbers.randrange(2, 6))
                expected = [sum(plain_holds(sentence, shape, {}) for shape in some) for some in shapes]
                self.assertEqual(counts(kind, sentence, most), expected, (kind, sentence))
                seen.add(tuple(expected))
            self.assertGreater(len(seen), 4)

    def test_with_those_of_the_negation_they_are_all_shapes(self):
        numbers = random.Random(121)
        for kind, size in ((A, 40), (AB, 70), (ABC, 60), (TREE_A, 30), (TREES, 25)):
            total = all_numbers(kind, size)
            for _ in range(25):
                sentence = random_formula(numbers, kind, [], [], numbers.randrange(2, 6))
                one, other = counts(kind, sentence, size), counts(kind, ("not", sentence), size)
                self.assertEqual([first + last for first, last in zip(one, other)], total)
                self.assertEqual((len(one), len(other)), (size + 1, size + 1))
                self.assertGreaterEqual(min(one + other), 0)

    def test_size_0(self):
        for kind in (A, ABC, TREE_A, TREES):
            self.assertEqual(counts(kind, read("all x: not true"), 0), [1])
            self.assertEqual(counts(kind, read("some x: true"), 0), [0])

    def test_each_size_is_the_beginning_of_a_greater_one(self):
        for kind in (AB, TREES):
            whole = counts(kind, read(NO_TWO_B), 12)
            for size in range(13):
                self.assertEqual(counts(kind, read(NO_TWO_B), size), whole[:size + 1])

    def test_large_numbers(self):
        found = counts(AB, read(NO_TWO_B), 400)
        for n in range(2, 401):
            self.assertEqual(found[n], found[n - 1] + found[n - 2])
        self.assertEqual(counts(ABC, ("true",), 300)[-1], 3 ** 300)

    def test_the_list_is_new(self):
        first = counts(AB, read(NO_TWO_B), 3)
        first.append(7)
        self.assertEqual(counts(AB, read(NO_TWO_B), 3), [1, 2, 3, 5])


class RecurrenceTest(unittest.TestCase):
    def test_the_example(self):
        self.assertEqual(recurrence(AB, read(NO_TWO_B)), (1, 1))

    def test_by_hand(self):
        for kind, text, numbers in [
            (AB, "not true", ()), (ABC, "some x: below(x, x)", ()), (AB, "true", (2,)), (ABC, "true", (3,)),
            (A, "true", (1,)), (AB, "all x: not true", (0,)), (AB, "some x: true", (2, 0)),
            (AB, "some x: some y: child 0(x, y)", (2, 0, 0)), (AB, "all x: label b(x)", (1,)),
            (AB, "some x: label b(x)", (3, -2)), (AB, "some x: some y: (child 0(x, y) and all z: below(x, z))", ()),
            (AB, "some x: (top(x) and some y: (child 0(x, y) and not some z: below(y, z)))", (0, 0, 0)),
            (AB, "some x: (label a(x) and all y: (label b(y) or same(x, y)))", (2, -1)),
            # The words of an even length, and those of an odd one.
            (A, "some X: all x: ((not top(x) or not in(x, X)) and (in(x, X) or some y: (child 0(x, y) and in(y, X)))"
                " and (not in(x, X) or all y: (not child 0(x, y) or not in(y, X))))", (0, 1)),
        ]:
            self.assertEqual(recurrence(kind, read(text)), numbers, (kind, text))

    def test_it_is_the_least_one(self):
        numbers = random.Random(122)
        lengths, seen = set(), set()
        for _ in range(250):
            kind = numbers.choice([A, AB, ABC])
            sentence = random_formula(numbers, kind, [], [], numbers.randrange(2, 7))
            machine = machine_of(kind, sentence)
            states = len(machine[3])
            found = recurrence(kind, sentence)
            self.assertEqual(found, plain_least(plain_counts(machine, 2 * states)), sentence)
            self.assertTrue(all(type(number) is int for number in found))
            lengths.add(len(found))
            seen.update(found)
        self.assertTrue({0, 1, 2, 3} <= lengths, lengths)
        self.assertLess(min(seen), 0)
        self.assertIn(0, seen)

    def test_the_counts_keep_it_far_out(self):
        for kind, text in [
            (AB, NO_TWO_B), (AB, "some x: label b(x)"), (ABC, "all x: all y: (not child 0(x, y) or label c(x) or "
             "not (label b(x) and label b(y)))"), (AB, "some x: some y: (child 0(x, y) and label a(x) and label b(y))"),
            (ABC, "some x: some y: (below(x, y) and label c(x) and label b(y))"), (AB, "some x: some y: some z: "
             "(below(x, y) and below(y, z) and label a(x) and label a(y) and label a(z))"), (A, "true"), (AB, "not true"),
        ]:
            found = recurrence(kind, read(text))
            terms = counts(kind, read(text), 250)
            self.assertTrue(is_kept_plainly(terms, found))
            self.assertEqual(plain_least(terms[:2 * len(found) + 4]), found)

    def test_a_sentence_about_one_far_letter(self):
        """256 states, and numbers that grow large on the way."""
        sentence = letter_at(7)
        self.assertEqual(recurrence(AB, sentence), (2,) + (0,) * 8)
        self.assertEqual(recurrence(AB, ("not", ("not", sentence))), (2,) + (0,) * 8)

    def test_machines_with_many_states(self):
        """The recurrence of sequences that need as many numbers as there are states."""
        numbers = random.Random(123)
        for kind, states in ((AB, 20), (ABC, 60), (AB, 150)):
            machine = random_machine(numbers, kind, 0, states)
            terms = plain_counts(machine, 2 * states + 40)
            found = least_recurrence(terms[:2 * states])
            self.assertGreater(len(found), states // 2)
            self.assertTrue(is_kept_plainly(terms, found))

    def test_other_moduli(self):
        """Whatever the modulus, what is found is not longer than the least recurrence; so it is the least one,
        if it is kept."""
        numbers = random.Random(124)
        missing = 0
        for _ in range(100):
            machine = random_machine(numbers, numbers.choice([AB, ABC]), 0, numbers.randrange(1, 9))
            terms = plain_counts(machine, 2 * len(machine[3]) + 3)
            least = least_recurrence(terms)
            self.assertEqual(least, plain_least(terms))
            for modulus in (3, 5, 7, 9, 15, 63, 101, 105, 1001, 10 ** 9 + 7, 3 ** 40):
                found = recurrence_modulo(terms, modulus)
                if found is None:
                    missing += 1
                else:
                    self.assertLessEqual(len(found), len(least))
                    self.assertIs(is_kept(terms, found), found == least)
        self.assertGreater(missing, 10)

    def test_trees(self):
        for kind in (TREE_A, TREES):
            for formula in (("true",), ("top", "x"), ("label", "q", "x"), nested("not", 41), letter_at(9)):
                self.assertRaises(InvalidKind, recurrence, kind, formula)


class KeepsTest(unittest.TestCase):
    def check(self, machine, numbers):
        """Against the counts themselves, at as many places as there are states, and some more."""
        terms = plain_counts(machine, len(machine[3]) + len(numbers) + 20)
        found = keeps(machine, numbers)
        self.assertIs(found, is_kept_plainly(terms, numbers), (machine, numbers))
        return found

    def test_marked_words(self):
        """The counts are those of the marked words, all signs counted."""
        numbers = random.Random(125)
        for kind, tracks, most in ((A, 0, 6), (AB, 1, 3), (A, 2, 3), (ABC, 1, 2)):
            for _ in range(10):
                machine = random_machine(numbers, kind, tracks, numbers.randrange(1, 5))
                found = [sum(machine[3][plain_state(machine, shape)] for shape in plain_shapes(
                    1, plain_signs(kind, tracks), size)) for size in range(most + 1)]
                self.assertEqual(found, plain_counts(machine, most))

    def test_by_hand(self):
        all_words = make_machine(AB, 0, 1, lambda sign, states: 0, [0])
        no_words = make_machine(AB, 0, 1, lambda sign, states: 0, [])
        marked = make_machine(AB, 3, 1, lambda sign, states: 0, [0])
        self.assertIs(keeps(all_words, (2,)), True)
        self.assertIs(keeps(all_words, (1,)), False)
        self.assertIs(keeps(all_words, (1, 2)), True)
        self.assertIs(keeps(all_words, (0, 0, 8)), True)
        self.assertIs(keeps(all_words, ()), False)
        self.assertIs(keeps(no_words, ()), True)
        self.assertIs(keeps(no_words, (5, -7)), True)
        self.assertIs(keeps(marked, (16,)), True)
        self.assertIs(keeps(marked, (2,)), False)

    def test_recurrences_and_what_is_near_them(self):
        numbers = random.Random(126)
        kept = refused = 0
        for _ in range(150):
            kind, tracks = numbers.choice([(A, 0), (AB, 0), (AB, 1), (ABC, 0), (A, 2), (AB, 3), (A, 6)])
            machine = random_machine(numbers, kind, tracks, numbers.randrange(1, 8))
            terms = plain_counts(machine, 2 * len(machine[3]) + 1)
            least = plain_least(terms)
            self.assertTrue(all(number.denominator == 1 for number in least))
            least = tuple(int(number) for number in least)
            self.assertTrue(self.check(machine, least))
            kept += 1
            for factor in ((1,), (-1, 0), (2,), (0, 3), (1, 1)):
                self.assertTrue(self.check(machine, times(least, factor)))
            others = [least[:-1], least + (1,), least + (0,), (0,) + least, (), (1,), (2,), (0,), (0, 0, 0)]
            for other in others + [changed_at(least, at, by) for at in range(len(least)) for by in (-3, 1)]:
                refused += not self.check(machine, other)
        self.assertGreater(refused, 500)

    def test_a_recurrence_that_fails_late(self):
        """A machine that accepts one word alone, so that all counts but one are 0."""
        for length in (1, 5, 60):
            machine = make_machine(A, 0, length + 2, lambda sign, states: min(states[0] + 1, length + 1), [length])
            for short in range(length + 1):
                self.assertIs(keeps(machine, (0,) * short), False)
                self.assertIs(keeps(machine, (0,) * short + (1,)), False)
            self.assertIs(keeps(machine, (0,) * (length + 1)), True)
            self.assertIs(keeps(machine, (0,) * (length + 9)), True)
            self.assertIs(keeps(machine, (3,) + (0,) * length), False)
            self.assertIs(keeps(machine, (3,) + (0,) * (length + 1)), True)

    def test_many_states(self):
        machine = make_machine(AB, 0, 300, lambda sign, states: (states[0] + 1) % 300, [0])
        self.assertIs(keeps(machine, (0,) * 299 + (2 ** 300,)), True)
        self.assertIs(keeps(machine, (0,) * 299 + (2 ** 300 + 1,)), False)
        self.assertIs(keeps(machine, (0,) * 298 + (2 ** 299,)), False)

    def test_what_recurrence_tells(self):
        for kind, text in ((AB, NO_TWO_B), (ABC, "some x: label b(x)"), (AB, "not true"), (A, "some x: top(x)")):
            found = recurrence(kind, read(text))
            machine = machine_of(kind, read(text))
            self.assertIs(keeps(machine, found), True)
            self.assertIs(keeps(machine, found + (1,)), found == ())

    def test_trees(self):
        for kind in (TREE_A, TREES):
            for tracks in (0, 1):
                machine = make_machine(kind, tracks, 2, lambda sign, states: 1, [1])
                for numbers in ((), (1,), (2, 3)):
                    self.assertRaises(InvalidKind, keeps, machine, numbers)


def times(least, factor):
    """The recurrence of a polynomial that is that of another one times a further one."""
    one = [1] + [-number for number in least]
    other = [1] + [-number for number in factor]
    product = [0] * (len(one) + len(other) - 1)
    for k, number in enumerate(one):
        for n, more in enumerate(other):
            product[k + n] += number * more
    return tuple(-number for number in product[1:])


def changed_at(numbers, at, by):
    return numbers[:at] + (numbers[at] + by,) + numbers[at + 1:]


class ErrorsTest(unittest.TestCase):
    def test_the_kind_comes_first(self):
        for kind in NO_KINDS:
            for formula in (("true",), ("top", "x"), ("label", "q", "x"), nested("not", 41)):
                self.assertRaises(InvalidKind, counts, kind, formula, 3)
                self.assertRaises(InvalidKind, recurrence, kind, formula)

    def test_sentences_that_do_not_fit(self):
        for formula in (("some", "x", ("label", "c", "x")), ("some", "x", ("child", 1, "x", "x")), nested("not", 41),
                        ("top", "x"), ("inside", "X", "X"), ("and", letter_at(9), ("top", "x"))):
            self.assertRaises(InvalidSentence, counts, AB, formula, 3)
            self.assertRaises(InvalidSentence, recurrence, AB, formula)
        self.assertRaises(InvalidSentence, counts, TREES, ("some", "x", ("child", 2, "x", "x")), 0)

    def test_too_large_machines(self):
        self.assertRaises(TooLarge, counts, AB, letter_at(9), 0)
        self.assertRaises(TooLarge, counts, TREES, letter_at(9), 2)
        self.assertRaises(TooLarge, recurrence, AB, letter_at(9))


if __name__ == "__main__":
    unittest.main()
