"""Relabelings: what they do to shapes, and what formulas say behind them."""

from treesays.building import any_of
from treesays.errors import InvalidSentence
from treesays.formulas import check_formula, free_variables
from treesays.machines import accepts, mark
from treesays.making import machine_of
from treesays.parts import built, outer
from treesays.seeking import found_paths
from treesays.shapes import check_kind, labels_of, paths, with_labels


def relabeled(kind, rules, shape):
    """The shape behind a relabeling."""
    _check_rules(kind, rules)
    machines = [machine_of(kind, formula) for _, formula in rules]
    new = {}
    for (label, _), machine in zip(rules, machines):
        for path in _places(machine, shape):
            new.setdefault(path, label)
    return with_labels(shape, [new.get(path, old) for path, old in zip(paths(shape), labels_of(shape))])


def before(kind, rules, formula):
    """A formula that holds in a shape where a formula holds behind a relabeling."""
    _check_rules(kind, rules)
    check_formula(kind, formula)
    told = {label: _gets(rules, label) for label in kind[1]}
    return built(formula, lambda now, inside: _before_above(now, inside, told))


def together(kind, first, second):
    """A relabeling that does what one relabeling and then another one do."""
    _check_rules(kind, first)
    _check_rules(kind, second)
    # What the second one leaves as it is has the label that the first one gave.
    return (*[(label, before(kind, first, formula)) for label, formula in second], *first)


def _check_rules(kind, rules):
    """Raise InvalidSentence if a relabeling is not right."""
    check_kind(kind)
    for label, formula in rules:
        if label not in kind[1]:
            raise InvalidSentence("a relabeling gives labels of the kind only")
        check_formula(kind, formula)
        if free_variables(formula) not in ([], ["x"]):
            raise InvalidSentence("the formulas of a relabeling have no free variable but x")


def _places(machine, shape):
    """The paths of the elements for which a formula with this machine, perhaps a sentence, holds."""
    marked = mark(shape, [])
    if machine[1] == 1:
        return found_paths(machine, marked)
    return paths(shape) if accepts(machine, marked) else []


def _gets(rules, label):
    """That x has a label behind a relabeling; x is free in it, whatever the rules."""
    cases = []
    refused = []
    for new, formula in (*rules, (label, ("label", label, "x"))):
        if new != label:
            refused.append(formula)
        elif refused:
            cases.append(("and", formula, ("not", any_of(refused))))
        else:
            cases.append(formula)
    return any_of(cases)


def _before_above(now, inside, told):
    """What a part becomes; `told` has for each label that x gets it."""
    if now[0] == "label":
        return built(told[now[1]], lambda one, below: _exchanged(one, below, now[2]))
    return (*outer(now), *inside)


def _exchanged(now, inside, name):
    """What a part becomes if x and another variable are exchanged everywhere, also where they are bound.

    So no quantifier of the part binds what should be free.
    """
    ahead = 2 if now[0] in ("label", "child") else 1
    names = [{"x": name, name: "x"}.get(old, old) for old in outer(now)[ahead:]]
    return (*now[:ahead], *names, *inside)
