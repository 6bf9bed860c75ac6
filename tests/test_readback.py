"""treesays/readback.py: sentences of machines (point 21)."""

import random
import unittest

from helper import (
    KINDS, counting, inflated, make_machine, plain_free, plain_holds, plain_inner, plain_least, plain_mark,
    plain_shapes, plain_state, random_machine, random_shape,
)
from treesays.errors import TooLarge
from treesays.formulas import check_sentence
from treesays.judge import judge
from treesays.making import core, machine_of
from treesays.meaning import holds
from treesays.papers import paper
from treesays.readback import sentence_of

ABC = (1, ("a", "b", "c"))
TREES_3 = (2, ("a", "b", "c"))


def all_variables(formula):
    if plain_inner(formula):
        return set(v for v in formula[1:] if isinstance(v, str)).union(*[
            all_variables(part) for part in plain_inner(formula)])
    return plain_free(formula)


def least_with(random, kind, states):
    """A least machine without tracks that has so many states."""
    while True:
        machine = plain_least(random_machine(random, kind, 0, states + random.randrange(2)))
        if len(machine[3]) == states:
            return machine


def never(kind):
    return make_machine(kind, 0, 1, lambda sign, states: 0, [])


def always(kind):
    return make_machine(kind, 0, 1, lambda sign, states: 0, [0])


class SentenceTest(unittest.TestCase):
    def machines(self, seed, each):
        numbers = random.Random(seed)
        for kind in (*KINDS, ABC):
            yield never(kind)
            yield always(kind)
            for states in (2, 3, 4):
                for _ in range(each):
                    yield least_with(numbers, kind, states)

    def test_the_machine_comes_back(self):
        for machine in self.machines(140, 12):
            self.assertEqual(machine_of(machine[0], sentence_of(machine)), machine)

    def test_all_machines_with_two_states(self):
        """Those for words with one label, and for words with two."""
        for labels in (("a",), ("a", "b")):
            for bits in range(4 << 2 * len(labels)):
                rows = tuple((bits >> 2 + 2 * k & 1, bits >> 3 + 2 * k & 1) for k in range(len(labels)))
                machine = plain_least(((1, labels), 0, rows, (bits & 1 == 1, bits & 2 == 2)))
                self.assertEqual(machine_of((1, labels), sentence_of(machine)), machine)

    def test_the_plain_meaning_is_acceptance(self):
        for machine in self.machines(141, 3):
            kind = machine[0]
            sentence = sentence_of(machine)
            most = {(1, 1): 4, (1, 2): 3}.get((kind[0], len(kind[1])), 2)
            for size in range(most + 1):
                for shape in plain_shapes(kind[0], kind[1], size)[:25]:
                    accepted = machine[3][plain_state(machine, plain_mark(shape, []))]
                    self.assertIs(holds(sentence, shape, {}), accepted)
                    if size < 3:
                        self.assertIs(plain_holds(sentence, shape, {}), accepted)

    def test_larger_shapes(self):
        numbers = random.Random(142)
        for kind in KINDS:
            machine = least_with(numbers, kind, 3)
            for size in (5, 6):
                shape = random_shape(numbers, kind, size)
                accepted = machine[3][plain_state(machine, plain_mark(shape, []))]
                self.assertIs(holds(sentence_of(machine), shape, {}), accepted)

    def test_it_is_a_sentence_with_few_variables(self):
        for machine in self.machines(143, 8):
            sentence = sentence_of(machine)
            check_sentence(machine[0], sentence)
            self.assertEqual(plain_free(sentence), set())
            self.assertLessEqual(len(all_variables(sentence)), 4)

    def test_papers_show_that_it_is_right(self):
        """Also its core is not nested too deep."""
        numbers = random.Random(144)
        for kind in KINDS:
            sentence = core(sentence_of(least_with(numbers, kind, 4)))
            self.assertIs(judge(kind, sentence, paper(kind, sentence)), True)

    def test_counting_machines(self):
        for kind in KINDS:
            for modulus in (2, 3, 4):
                for good in range(modulus):
                    machine = plain_least(counting(kind, modulus, [good]))
                    self.assertEqual(machine_of(kind, sentence_of(machine)), machine)

    def test_too_large(self):
        numbers = random.Random(145)
        for kind in KINDS:
            for states in (5, 6, 9):
                self.assertRaises(TooLarge, sentence_of, least_with(numbers, kind, states))
            self.assertRaises(TooLarge, sentence_of, plain_least(counting(kind, 100)))
        self.assertRaises(TooLarge, sentence_of, inflated(numbers, never(ABC), 4))


if __name__ == "__main__":
    unittest.main()
