"""The parts of formulas and of expressions: tuples that begin with a word and may end in others of this form."""

# Where the parts directly inside begin; in other forms there are none.
INSIDE = {
    "not": 1, "and": 1, "or": 1, "some": 2, "all": 2, "someset": 2, "allset": 2,
    "then": 1, "either": 1, "many": 1,
}


def inner(whole):
    """The tuple of the parts directly inside of a formula or an expression."""
    return whole[INSIDE.get(whole[0], len(whole)):]


def outer(whole):
    """What stands ahead of the parts directly inside."""
    return whole[:INSIDE.get(whole[0], len(whole))]


def all_parts(whole):
    """All parts, each one ahead of those inside of it."""
    waiting = [whole]
    found = []
    while waiting:
        now = waiting.pop()
        found.append(now)
        waiting.extend(list(reversed(inner(now))))
    return found


def built(whole, above):
    """What comes out if each part gives what `above` tells of it and of the
    list of what the parts directly inside of it gave.

    Parts that are equal give the same; it is asked for only once.
    """
    # Parts may be nested deeper than calls of functions, and than keys of
    # dicts, may be. So this is a loop, and a key has numbers for what is inside.
    numbers = {}
    results = []
    waiting = []
    for now in reversed(all_parts(whole)):
        inside = [waiting.pop() for _ in inner(now)]
        key = (*outer(now), *inside)
        if key not in numbers:
            results.append(above(now, [results[number] for number in inside]))
            numbers[key] = len(results) - 1
        waiting.append(numbers[key])
    return results[waiting[0]]
