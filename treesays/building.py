"""Formulas that are put together of many."""


def all_of(formulas):
    """A formula that holds where all of some formulas hold."""
    return _balanced("and", formulas, ("true",))


def any_of(formulas):
    """A formula that holds where one of some formulas holds."""
    return _balanced("or", formulas, ("not", ("true",)))


def _balanced(word, formulas, none):
    """The formulas joined by a word, so that they are nested as little as may be."""
    left = list(formulas) if formulas else [none]
    while len(left) > 1:
        pairs = [(word, one, other) for one, other in zip(left[::2], left[1::2])]
        left = pairs + left[2 * len(pairs):]
    return left[0]
