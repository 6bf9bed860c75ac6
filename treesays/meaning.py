"""The plain meaning of formulas."""

from treesays.formulas import free_variables, is_element_name
from treesays.parts import built
from treesays.shapes import labels_of, paths


class Ground:
    """The elements of a shape, numbered in ascending order, and how they stand to each other."""

    def __init__(self, shape):
        places = paths(shape)
        self.many = len(places)
        self.numbers = {path: number for number, path in enumerate(places)}
        self.labels = labels_of(shape)
        # The number of each child, or None; words have no second ones.
        self.children = [[self.numbers.get(path + (k,)) for path in places] for k in (0, 1)]
        # What is below an element comes right behind it, up to this number.
        self.ends = list(range(1, self.many + 1))
        for number in reversed(range(self.many)):
            for k in (0, 1):
                child = self.children[k][number]
                if child is not None:
                    self.ends[number] = self.ends[child]

    def meant(self, name, value):
        """What stands for the value of a variable here: the number of an element, or for a set an
        integer with the bit n for the element n."""
        if is_element_name(name):
            return self.numbers[value]
        return sum([1 << self.numbers[path] for path in value])


def holds(formula, shape, values):
    """Whether a formula holds in a shape for these values of its free variables."""
    ground = Ground(shape)
    bound = {name: ground.meant(name, values[name]) for name in free_variables(formula)}
    test = built(formula, lambda now, tests: _test_above(now, tests, ground, bound))
    return test()


# A test is a function without arguments: whether a part holds for the values
# that the variables have in the dict `bound` at this time.

def _test_above(now, tests, ground, bound):
    """The test of a part, by the tests of the formulas directly inside of it."""
    if not tests:
        return _test_of_atom(now, ground, bound)
    word = now[0]
    first = tests[0]
    last = tests[-1]
    if word == "not":
        return lambda: not first()
    if word == "and":
        return lambda: first() and last()
    if word == "or":
        return lambda: first() or last()
    return _test_of_quantifier(now, first, ground, bound)


def _test_of_atom(atom, ground, bound):
    """The test of an atom or of true."""
    word = atom[0]
    first = atom[1] if len(atom) > 1 else None
    last = atom[-1]
    if word == "true":
        return lambda: True
    if word == "label":
        return lambda: ground.labels[bound[last]] == first
    if word == "child":
        above = atom[2]
        children = ground.children[first]
        return lambda: children[bound[above]] == bound[last]
    if word == "below":
        return lambda: bound[first] < bound[last] < ground.ends[bound[first]]
    if word == "same":
        return lambda: bound[first] == bound[last]
    if word == "top":
        return lambda: bound[first] == 0
    if word == "in":
        return lambda: (bound[last] >> bound[first]) & 1 == 1
    return lambda: bound[first] & ~bound[last] == 0


def _test_of_quantifier(now, inside, ground, bound):
    """The test of a formula that begins with a quantifier."""
    word, name = now[:2]
    many = ground.many if is_element_name(name) else 1 << ground.many
    wanted = word in ("some", "someset")
    names = free_variables(now)
    # The answers are kept, because they do not change with other variables further out.
    known = {}

    def test():
        key = tuple([bound[other] for other in names])
        if key not in known:
            old = bound.get(name)
            known[key] = _is_met(inside, bound, name, many, wanted) == wanted
            bound[name] = old
        return known[key]

    return test


def _is_met(inside, bound, name, many, wanted):
    """Whether a test tells what is wanted for some value of a variable."""
    for value in range(many):
        bound[name] = value
        if inside() == wanted:
            return True
    return False
