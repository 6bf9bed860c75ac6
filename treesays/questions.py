"""Questions about elements, and formulas that are functions."""

from treesays.errors import InvalidSentence, NoFunction
from treesays.finding import least_accepted
from treesays.formulas import check_formula, free_variables, is_element_name
from treesays.machines import mark
from treesays.making import machine_of
from treesays.seeking import found_paths
from treesays.shapes import part
from treesays.tallying import failing


def answers(kind, question, shape):
    """The ascending list of the paths of the elements for which a question holds."""
    _check_variables(kind, question, 1)
    return found_paths(machine_of(kind, question), mark(shape, []))


def failure(kind, formula):
    """The least shape in which a formula is no function from its first variable to its second one, or None."""
    _check_variables(kind, formula, 2)
    return least_accepted(failing(machine_of(kind, formula)))


def image(kind, formula, shape, path):
    """The path of the one element for which a formula holds together with the one at a path."""
    _check_variables(kind, formula, 2)
    machine = machine_of(kind, formula)
    # For the error alone: there has to be an element at the path.
    part(shape, path)
    found = found_paths(machine, mark(shape, [(path,)]))
    if len(found) != 1:
        raise NoFunction("the formula holds for no element or for several")
    return found[0]


def _check_variables(kind, formula, count):
    """Raise InvalidSentence if a formula does not fit, or has other free variables than so many for elements."""
    check_formula(kind, formula)
    names = free_variables(formula)
    if len(names) != count or not all([is_element_name(name) for name in names]):
        raise InvalidSentence("the formula has other free variables")
