"""Points 7 and 13 for small formulas: what fits and is small is not too large for anything."""

import unittest

from helper import meant, plain_free, plain_mark, plain_paths, plain_shapes, plain_state, subsets
from treesays.counting import counts
from treesays.deciding import is_always, least_model
from treesays.formulas import check_formula
from treesays.making import core, machine_of
from treesays.papers import paper

KINDS = [(1, ("a",)), (1, ("a", "b")), (1, ("a", "b", "c")), (2, ("a",)), (2, ("a", "b")), (2, ("a", "b", "c"))]
QUANTIFIERS = [("some", "x"), ("some", "y"), ("all", "x"), ("all", "y"), ("someset", "X"), ("allset", "X")]


def atoms(kind):
    """All atoms with the variables x, y and X."""
    found = [("true",), ("inside", "X", "X")]
    for x in "xy":
        found += [("label", label, x) for label in kind[1]] + [("top", x), ("in", x, "X")]
        for y in "xy":
            found += [("below", x, y), ("same", x, y)] + [("child", k, x, y) for k in range(kind[0])]
    return found


def formulas(kind):
    known = atoms(kind)
    found = known + [("not", one) for one in known]
    found += [(word, one, other) for word in ("and", "or") for one in known for other in known]
    return found + [(*quantifier, one) for quantifier in QUANTIFIERS for one in known]


def closed(formula, is_some):
    """The formula behind a quantifier for each of its free variables."""
    for name in sorted(plain_free(formula)):
        word = "some" if is_some else "all"
        formula = (word if name.islower() else word + "set", name, formula)
    return formula


class SmallFormulaTest(unittest.TestCase):
    def test_machines_and_papers(self):
        for kind in KINDS:
            for formula in formulas(kind):
                check_formula(kind, formula)
                self.assertEqual(paper(kind, core(formula))[0], machine_of(kind, formula))

    def test_sentences(self):
        for kind in KINDS:
            known = formulas(kind)
            for formula in known[:60] + known[60::17]:
                for sentence in (closed(formula, True), closed(formula, False)):
                    machine = machine_of(kind, sentence)
                    self.assertEqual(paper(kind, core(sentence))[0], machine)
                    model = least_model(kind, sentence)
                    numbers = counts(kind, sentence, 6)
                    size = next((size for size, number in enumerate(numbers) if number), None)
                    self.assertEqual(None if model is None else len(plain_paths(model)), size)
                    self.assertIs(is_always(kind, sentence), least_model(kind, ("not", sentence)) is None)

    def test_they_are_right(self):
        for kind in ((1, ("a",)), (2, ("a",))):
            shapes = [shape for size in range(3) for shape in plain_shapes(kind[0], kind[1], size)]
            for formula in formulas(kind)[::5]:
                machine = machine_of(kind, formula)
                for shape in shapes:
                    choices = [[]]
                    for _ in range(machine[1]):
                        choices = [some + [one] for some in choices for one in subsets(sorted(plain_paths(shape)))]
                    for sets in choices:
                        state = plain_state(machine, plain_mark(shape, sets))
                        self.assertIs(machine[3][state], meant(formula, shape, sets), (formula, shape, sets))


if __name__ == "__main__":
    unittest.main()
