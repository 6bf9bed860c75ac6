"""What several tests need: kinds, machines, and plain ways to tell what a machine should be.

Nothing here uses the package, so that a fault in it does not hide itself.
"""

import itertools

NO_KINDS = [
    (),
    (1,),
    (("a",), 1),
    (1, ("a",), 0),
    (0, ("a",)),
    (3, ("a",)),
    (-1, ("a",)),
    (1, ()),
    (2, ()),
    (1, ("a", "b", "c", "d")),
    (2, ("b", "a")),
    (1, ("a", "c", "b")),
    (1, ("a", "a")),
    (2, ("a", "b", "b")),
    (1, ("ab",)),
    (1, ("",)),
    (1, ("A",)),
    (1, ("1",)),
    (2, ("a", "{")),
    (2, ("`", "a")),
    (1, ("a", "\u00e9")),
    (1, ("a", "bc")),
]

KINDS = [
    (1, ("a",)),
    (1, ("a", "b")),
    (1, ("b", "k", "z")),
    (2, ("a",)),
    (2, ("c", "x")),
    (2, ("a", "b", "c")),
]


def word(letters):
    """The word with these letters."""
    shape = ()
    for letter in reversed(letters):
        shape = (letter, shape)
    return shape


def plain_text(shape):
    if not shape:
        return "."
    if len(shape) == 2:
        return shape[0] + plain_text(shape[1])
    return shape[0] + "(" + plain_text(shape[1]) + "," + plain_text(shape[2]) + ")"


def plain_paths(shape):
    """The paths of a shape, in no told order."""
    found = [()] if shape else []
    for step, child in enumerate(shape[1:]):
        found += [(step,) + path for path in plain_paths(child)]
    return found


def plain_shapes(ways, labels, size):
    """All shapes of a size, with any values as labels, in no told order."""
    if size == 0:
        return [()]
    found = []
    for sizes in itertools.product(range(size), repeat=ways):
        if sum(sizes) == size - 1:
            choices = [plain_shapes(ways, labels, some) for some in sizes]
            found += [(label,) + children for label in labels for children in itertools.product(*choices)]
    return found


def plain_signs(kind, tracks):
    return sorted(itertools.product(kind[1], itertools.product((0, 1), repeat=tracks)))


def plain_at(shape, path):
    for step in path:
        shape = shape[1 + step]
    return shape


def plain_mark(shape, sets, path=()):
    """The marked shape with a track for each set of paths."""
    if not shape:
        return ()
    sign = (shape[0], tuple(int(path in some) for some in sets))
    return (sign,) + tuple(plain_mark(child, sets, path + (step,)) for step, child in enumerate(shape[1:]))


def entry(machine, row, states):
    """What stands in a row of the table above some states."""
    found = machine[2][row]
    for state in states:
        found = found[state]
    return found


def plain_state(machine, marked):
    if not marked:
        return 0
    row = plain_signs(machine[0], machine[1]).index(marked[0])
    return entry(machine, row, [plain_state(machine, child) for child in marked[1:]])


def small_marked(kind, tracks, most):
    """All marked shapes up to a size."""
    signs = plain_signs(kind, tracks)
    return [shape for size in range(most + 1) for shape in plain_shapes(kind[0], signs, size)]


def make_machine(kind, tracks, count, above, good):
    """A machine with the state above(sign, states of the children) and the good states."""
    rows = []
    for sign in plain_signs(kind, tracks):
        if kind[0] == 1:
            rows.append(tuple(above(sign, (one,)) for one in range(count)))
        else:
            rows.append(tuple(tuple(above(sign, (one, other)) for other in range(count)) for one in range(count)))
    return kind, tracks, tuple(rows), tuple(state in good for state in range(count))


def random_machine(random, kind, tracks, count):
    good = [state for state in range(count) if random.random() < 0.4]
    return make_machine(kind, tracks, count, lambda sign, states: random.randrange(count), good)


def inflated(random, machine, copies):
    """A machine that accepts the same, with several copies of each state, and some without shapes."""
    count = len(machine[3])
    fresh = count * copies

    def above(sign, states):
        row = plain_signs(machine[0], machine[1]).index(sign)
        if max(states) >= fresh:
            return random.randrange(fresh + 2)
        return entry(machine, row, [state % count for state in states]) + count * random.randrange(copies)

    good = [state for state in range(fresh) if machine[3][state % count]] + [fresh]
    return make_machine(machine[0], machine[1], fresh + 2, above, good)


def counting(kind, modulus, good=None):
    """The machine without tracks that counts all labels up to a modulus."""
    return make_machine(
        kind, 0, modulus, lambda sign, states: (sum(states) + 1) % modulus, [0] if good is None else good
    )


def found_in_order(ways, rows, start, above):
    """All that is found from `start` on, in the order of point 12."""
    found = [start]
    places = {start: 0}
    for n in itertools.count():
        if n == len(found):
            return found
        combinations = [(n,)] if ways == 1 else [(k, n) for k in range(n)] + [(n, k) for k in range(n + 1)]
        for row in range(rows):
            for some in combinations:
                new = above(row, [found[k] for k in some])
                if new not in places:
                    places[new] = len(found)
                    found.append(new)


def machine_order(machine):
    """The states with marked shapes, in the order of point 12."""
    return found_in_order(machine[0][0], len(machine[2]), 0, lambda row, states: entry(machine, row, states))


def plain_classes(machine):
    """A class for each state, the same for alike ones; all states belong to marked shapes."""
    kind, _, table, good = machine
    classes = [int(truth) for truth in good]
    while True:
        known = {}
        finer = []
        for state in range(len(good)):
            seen = [classes[state]]
            for row in table:
                if kind[0] == 1:
                    seen.append(classes[row[state]])
                else:
                    seen += [classes[goal] for goal in row[state]]
                    seen += [classes[line[state]] for line in row]
            finer.append(known.setdefault(tuple(seen), len(known)))
        if len(set(finer)) == len(set(classes)):
            return finer
        classes = finer


def renamed(machine, order, class_of):
    """The machine over the classes of some states: `order` has a state for each class."""
    kind, tracks, table, good = machine
    numbers = {class_of[state]: number for number, state in enumerate(order)}

    def row_of(row, ways):
        if ways == 0:
            return numbers[class_of[row]]
        return tuple(row_of(row[state], ways - 1) for state in order)

    return kind, tracks, tuple(row_of(row, kind[0]) for row in table), tuple(good[state] for state in order)


def plain_least(machine):
    """The least machine, step by step as point 12 tells it."""
    order = machine_order(machine)
    machine = renamed(machine, order, {state: state for state in order})
    classes = plain_classes(machine)
    first = {}
    for state, name in enumerate(classes):
        first.setdefault(name, state)
    machine = renamed(machine, list(first.values()), classes)
    order = machine_order(machine)
    return renamed(machine, order, {state: state for state in order})


def met_together(machines, rows):
    """All tuples of states, one of each machine, that belong to one marked shape.

    `rows` has for each sign a tuple with the row of each machine.
    """
    def above(row, states):
        return tuple(
            entry(machine, place, [some[k] for some in states])
            for k, (machine, place) in enumerate(zip(machines, rows[row]))
        )

    return found_in_order(machines[0][0][0], len(rows), (0,) * len(machines), above)


def same_accepted(first, second):
    """Whether two machines with the same tracks accept the same marked shapes."""
    rows = [(row, row) for row in range(len(first[2]))]
    return all(first[3][one] == second[3][other] for one, other in met_together([first, second], rows))


def with_mark(sign, track, one):
    """A sign with one mark more."""
    label, marks = sign
    return label, marks[:track] + (one,) + marks[track:]


def hides(machine, track, result):
    """Whether `result` accepts what the machine accepts with some marks on a track, for all marked shapes."""
    kind, tracks = machine[:2]
    signs = plain_signs(kind, tracks)
    pairs = [[signs.index(with_mark(sign, track, one)) for one in (0, 1)] for sign in plain_signs(kind, tracks - 1)]

    def above(row, children):
        state = entry(result, row, [child[1] for child in children])
        states = {
            entry(machine, place, some)
            for place in pairs[row]
            for some in itertools.product(*[child[0] for child in children])
        }
        return tuple(sorted(states)), state

    met = found_in_order(kind[0], len(pairs), ((0,), 0), above)
    return all(any(machine[3][one] for one in states) == result[3][state] for states, state in met)
