"""Formulas: their parts, their free variables, and whether they fit a kind."""

from treesays.errors import InvalidSentence
from treesays.parts import all_parts, built
from treesays.shapes import check_kind

MOST_FREE = 6
MOST_DEEP = 40

QUANTIFIERS = ("some", "all", "someset", "allset")


def is_element_name(name):
    """Whether a variable is an element variable."""
    return "a" <= name[0] <= "z"


def depth(formula):
    """How deep the parts of a formula are nested."""
    return built(formula, lambda now, depths: 1 + max(depths, default=0))


def free_variables(formula):
    """The ascending list of the free variables."""
    return built(formula, _free_above)


def _free_above(now, inside):
    """The free variables of a part, by those of the formulas directly inside of it."""
    if now[0] in QUANTIFIERS:
        return [name for name in inside[0] if name != now[1]]
    if inside:
        return sorted({name for names in inside for name in names})
    # A label, and the number of a child, stand ahead of the variables.
    if now[0] in ("label", "child"):
        return sorted(set(now[2:]))
    return sorted(set(now[1:]))


def check_formula(kind, formula):
    """Raise InvalidSentence if a formula does not fit the kind or breaks the bounds."""
    check_kind(kind)
    if depth(formula) > MOST_DEEP:
        raise InvalidSentence("the parts of the formula are nested too deep")
    for now in all_parts(formula):
        _check_words(kind, now)
    built(formula, _few_above)


def _check_words(kind, now):
    """Raise InvalidSentence if a part has a label or a number of a child that the kind does not have."""
    ways, labels = kind
    if now[0] == "label" and now[1] not in labels:
        raise InvalidSentence("the formula has a label that the kind does not have")
    if now[0] == "child" and not 0 <= now[1] < ways:
        raise InvalidSentence("the formula speaks of a child that the kind does not have")


def _few_above(now, inside):
    """The free variables of a part; raises InvalidSentence if there are too many."""
    names = _free_above(now, inside)
    if len(names) > MOST_FREE:
        raise InvalidSentence("a part of the formula has too many free variables")
    return names


def check_sentence(kind, formula):
    """Raise InvalidSentence if a formula is no sentence that fits the kind and keeps the bounds."""
    check_formula(kind, formula)
    if free_variables(formula):
        raise InvalidSentence("a sentence has no free variables")
