"""treesays/atoms.py: the machines of atoms and of true (point 13)."""

import itertools
import random
import unittest

from helper import (
    ATOMS, NO_KINDS, atoms_for, make_machine, meant, nested, plain_free, plain_least, plain_mark, plain_paths,
    plain_shapes, random_sets, random_shape, subsets,
)
from treesays.atoms import atom_machine
from treesays.errors import InvalidKind, InvalidSentence
from treesays.machines import accepts, is_machine, least

AB = (1, ("a", "b"))
TREES = (2, ("a", "b"))
ABC = (1, ("a", "b", "c"))
SIZES = [(AB, 3), (TREES, 3), (ABC, 2), ((2, ("a", "b", "q")), 2)]


class AtomMachineTest(unittest.TestCase):
    def test_it_accepts_what_it_should(self):
        """All marked shapes up to some size, with any numbers of marks on each track."""
        for kind, most in SIZES:
            shapes = [shape for size in range(most + 1) for shape in plain_shapes(kind[0], kind[1], size)]
            for atom in atoms_for(kind):
                machine = atom_machine(kind, atom)
                for shape in shapes:
                    choices = subsets(sorted(plain_paths(shape)))
                    for sets in itertools.product(choices, repeat=len(plain_free(atom))):
                        self.assertIs(accepts(machine, plain_mark(shape, sets)), meant(atom, shape, sets),
                                      (kind, atom, shape, sets))

    def test_larger_shapes(self):
        numbers = random.Random(70)
        for kind in (AB, TREES, ABC):
            for atom in atoms_for(kind):
                machine = atom_machine(kind, atom)
                names = sorted(plain_free(atom))
                for _ in range(60):
                    shape = random_shape(numbers, kind, numbers.randrange(4, 12))
                    sets = random_sets(numbers, shape, names)
                    self.assertIs(accepts(machine, plain_mark(shape, sets)), meant(atom, shape, sets))

    def test_it_is_least(self):
        for kind, _ in SIZES:
            for atom in atoms_for(kind):
                machine = atom_machine(kind, atom)
                self.assertTrue(is_machine(machine))
                self.assertEqual(machine[:2], (kind, len(plain_free(atom))))
                self.assertEqual(machine, plain_least(machine))
                self.assertEqual(machine, least(machine))

    def test_by_hand(self):
        everything = ((1, ("a", "b")), 0, ((0,), (0,)), (True,))
        self.assertEqual(atom_machine(AB, ("true",)), everything)
        # The states that come first: one mark, which is good here, and what is lost.
        rows = ((0, 1, 2), (1, 2, 2), (0, 1, 2), (2, 2, 2))
        self.assertEqual(atom_machine(AB, ("label", "a", "x")), (AB, 1, rows, (False, True, False)))
        # Here what is lost comes first.
        rows = ((0, 1, 2), (1, 1, 1), (0, 1, 2), (2, 1, 1))
        self.assertEqual(atom_machine(AB, ("label", "b", "x")), (AB, 1, rows, (False, False, True)))

    def test_tracks_are_in_ascending_order(self):
        for kind in (AB, TREES):
            straight, other = atom_machine(kind, ("below", "x", "y")), atom_machine(kind, ("below", "y", "x"))
            self.assertNotEqual(straight, other)
            self.assertEqual(atom_machine(kind, ("below", "a", "b")), straight)
            self.assertEqual(atom_machine(kind, ("below", "x2", "x10")), other)
            # Capital letters come first.
            self.assertEqual(atom_machine(kind, ("in", "a", "Z")), atom_machine(kind, ("in", "z", "A")))
            shape = ("a",) + ((),) * kind[0]
            for bits, truth in (((1, 1), True), ((0, 1), False), ((1, 0), False)):
                marked = (("a", bits),) + shape[1:]
                self.assertIs(accepts(atom_machine(kind, ("in", "x", "X")), marked), truth)

    def test_one_variable_twice(self):
        for kind in (AB, TREES):
            nowhere = make_machine(kind, 1, 1, lambda sign, states: 0, [])
            for atom in (("below", "x", "x"), ("child", 0, "x", "x")):
                self.assertEqual(atom_machine(kind, atom), nowhere)
            # Exactly one mark; so this is not the machine of true.
            once = make_machine(kind, 1, 3, lambda sign, states: min(2, sum(states) + sign[1][0]), [1])
            self.assertEqual(atom_machine(kind, ("same", "x", "x")), plain_least(once))
            everywhere = make_machine(kind, 1, 1, lambda sign, states: 0, [0])
            self.assertEqual(atom_machine(kind, ("inside", "X", "X")), everywhere)

    def test_true_has_no_tracks(self):
        for kind, _ in SIZES:
            self.assertEqual(atom_machine(kind, ("true",)), make_machine(kind, 0, 1, lambda sign, states: 0, [0]))


class ErrorsTest(unittest.TestCase):
    def test_formulas_that_are_no_atoms(self):
        for word in ("not", "and", "or", "some", "all", "someset", "allset"):
            for deep in (2, 3, 40, 41, 5000):
                self.assertRaises(InvalidSentence, atom_machine, AB, nested(word, deep))

    def test_atoms_that_do_not_fit(self):
        for kind, atom in [
            (AB, ("label", "c", "x")), (TREES, ("label", "q", "x")), ((1, ("k",)), ("label", "a", "x")),
            (AB, ("child", 1, "x", "y")), (AB, ("child", -1, "x", "y")), (TREES, ("child", 2, "x", "y")),
        ]:
            self.assertRaises(InvalidSentence, atom_machine, kind, atom)
            self.assertRaises(InvalidSentence, atom_machine, kind, ("not", atom))

    def test_the_kind_comes_first(self):
        for kind in NO_KINDS:
            for formula in (*ATOMS, ("label", "q", "x"), ("not", ("true",)), nested("and", 41)):
                self.assertRaises(InvalidKind, atom_machine, kind, formula)


if __name__ == "__main__":
    unittest.main()
