"""Expressions, which tell words, and their machines."""

from treesays.errors import InvalidKind, InvalidSentence, TooLarge
from treesays.parts import all_parts, built
from treesays.passing import passed
from treesays.shapes import check_kind, labels_of
from treesays.telling import Trail
from treesays.weaving import woven

MOST_STATES_TOLD = 5


def check_expression(kind, expression):
    """Raise InvalidKind for a kind of trees, InvalidSentence for a letter that is no label."""
    check_kind(kind)
    if kind[0] != 1:
        raise InvalidKind("expressions tell words")
    for now in all_parts(expression):
        if now[0] == "letter" and now[1] not in kind[1]:
            raise InvalidSentence("the expression has a letter that is no label")


def tells(expression, word):
    """Whether an expression tells a word."""
    return Trail(expression).tells(labels_of(word))


def expression_machine(kind, expression):
    """The machine of an expression."""
    check_expression(kind, expression)
    return built(expression, lambda now, machines: woven(kind, now, machines))


def expression_of(machine):
    """An expression that tells the words that a machine without tracks accepts."""
    if machine[0][0] != 1:
        raise InvalidKind("expressions tell words")
    if len(machine[3]) > MOST_STATES_TOLD:
        raise TooLarge("the machine has too many states")
    return passed(machine)

