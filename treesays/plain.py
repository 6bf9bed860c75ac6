"""Formulas in which nothing but atoms and true is denied."""

from treesays.parts import all_parts, built, inner, outer

# What a part becomes if it is denied.
OPPOSITES = {"and": "or", "or": "and", "some": "all", "all": "some", "someset": "allset", "allset": "someset"}


def plain(formula):
    """A plain formula that holds exactly where a formula holds."""
    return built(formula, _both_above)[0]


def is_plain(formula):
    """Whether not stands only in front of atoms and of true."""
    return all([now[0] != "not" or not inner(now[1]) for now in all_parts(formula)])


def _both_above(now, inside):
    """Plain formulas that hold where a part holds, and where it does not, by those of the parts directly inside."""
    word = now[0]
    if not inside:
        return now, ("not", now)
    if word == "not":
        return inside[0][1], inside[0][0]
    ahead = outer(now)[1:]
    told = (word, *ahead, *[pair[0] for pair in inside])
    return told, (OPPOSITES[word], *ahead, *[pair[1] for pair in inside])
