"""What holds everywhere, and least shapes in which it does or does not."""

from treesays.errors import InvalidSentence
from treesays.finding import least_accepted
from treesays.formulas import check_formula, check_sentence, free_variables
from treesays.machines import denied, joined
from treesays.making import machine_of


def least_model(kind, sentence):
    """The least shape in which a sentence holds, or None."""
    check_sentence(kind, sentence)
    return least_accepted(machine_of(kind, sentence))


def is_always(kind, sentence):
    """Whether a sentence holds in all shapes of a kind."""
    check_sentence(kind, sentence)
    # All states of a least machine belong to some shape.
    return all(machine_of(kind, sentence)[3])


def least_parting(kind, first, second):
    """The least shape in which one sentence holds and the other one does not, or None."""
    check_sentence(kind, first)
    check_sentence(kind, second)
    one = machine_of(kind, first)
    other = machine_of(kind, second)
    one_alone = joined(one, denied(other), True)
    other_alone = joined(denied(one), other, True)
    return least_accepted(joined(one_alone, other_alone, False))


def equal(kind, first, second):
    """Whether two formulas with the same free variables hold in the same shapes for the same values of them."""
    check_formula(kind, first)
    check_formula(kind, second)
    if free_variables(first) != free_variables(second):
        raise InvalidSentence("the formulas do not have the same free variables")
    return machine_of(kind, first) == machine_of(kind, second)
