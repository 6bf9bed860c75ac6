"""Formulas: their parts, their free variables, and whether they fit a kind."""

from treesays.errors import InvalidSentence
from treesays.shapes import check_kind

MOST_FREE = 6
MOST_DEEP = 40

QUANTIFIERS = ("some", "all", "someset", "allset")
# Where the formulas directly inside begin; in other forms there are none.
INSIDE = {"not": 1, "and": 1, "or": 1, "some": 2, "all": 2, "someset": 2, "allset": 2}


def inner(formula):
    """The tuple of the formulas directly inside of a formula."""
    return formula[INSIDE.get(formula[0], len(formula)):]


def is_element_name(name):
    """Whether a variable is an element variable."""
    return "a" <= name[0] <= "z"


def all_parts(formula):
    """All parts, each one ahead of those inside of it."""
    waiting = [formula]
    found = []
    while waiting:
        now = waiting.pop()
        found.append(now)
        waiting.extend(list(reversed(inner(now))))
    return found


def built(formula, above):
    """What comes out if each part gives what `above` tells of it and of the
    list of what the formulas directly inside of it gave.

    Parts that are equal give the same; it is asked for only once.
    """
    # Formulas may be nested deeper than calls of functions, and than keys of
    # dicts, may be. So this is a loop, and a key has numbers for what is inside.
    numbers = {}
    results = []
    waiting = []
    for now in reversed(all_parts(formula)):
        inside = [waiting.pop() for _ in inner(now)]
        key = (*now[:len(now) - len(inside)], *inside)
        if key not in numbers:
            results.append(above(now, [results[number] for number in inside]))
            numbers[key] = len(results) - 1
        waiting.append(numbers[key])
    return results[waiting[0]]


def depth(formula):
    """How deep the parts of a formula are nested."""
    return built(formula, lambda now, depths: 1 + max(depths, default=0))


def free_variables(formula):
    """The ascending list of the free variables."""
    return built(formula, _free_above)


def _free_above(now, inside):
    """The free variables of a part, by those of the formulas directly inside of it."""
    if now[0] in QUANTIFIERS:
        return [name for name in inside[0] if name != now[1]]
    if inside:
        return sorted({name for names in inside for name in names})
    # A label, and the number of a child, stand ahead of the variables.
    if now[0] in ("label", "child"):
        return sorted(set(now[2:]))
    return sorted(set(now[1:]))


def check_formula(kind, formula):
    """Raise InvalidSentence if a formula does not fit the kind or breaks the bounds."""
    check_kind(kind)
    if depth(formula) > MOST_DEEP:
        raise InvalidSentence("the parts of the formula are nested too deep")
    for now in all_parts(formula):
        _check_words(kind, now)
    built(formula, _few_above)


def _check_words(kind, now):
    """Raise InvalidSentence if a part has a label or a number of a child that the kind does not have."""
    ways, labels = kind
    if now[0] == "label" and now[1] not in labels:
        raise InvalidSentence("the formula has a label that the kind does not have")
    if now[0] == "child" and not 0 <= now[1] < ways:
        raise InvalidSentence("the formula speaks of a child that the kind does not have")


def _few_above(now, inside):
    """The free variables of a part; raises InvalidSentence if there are too many."""
    names = _free_above(now, inside)
    if len(names) > MOST_FREE:
        raise InvalidSentence("a part of the formula has too many free variables")
    return names


def check_sentence(kind, formula):
    """Raise InvalidSentence if a formula is no sentence that fits the kind and keeps the bounds."""
    check_formula(kind, formula)
    if free_variables(formula):
        raise InvalidSentence("a sentence has no free variables")
