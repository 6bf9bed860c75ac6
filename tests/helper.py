"""What several tests need: kinds, machines, and plain ways to tell what a machine should be.

Nothing here uses the package, so that a fault in it does not hide itself.
"""

import itertools

NO_KINDS = [
    (),
    (1,),
    (("a",), 1),
    (1, ("a",), 0),
    (0, ("a",)),
    (3, ("a",)),
    (-1, ("a",)),
    (1, ()),
    (2, ()),
    (1, ("a", "b", "c", "d")),
    (2, ("b", "a")),
    (1, ("a", "c", "b")),
    (1, ("a", "a")),
    (2, ("a", "b", "b")),
    (1, ("ab",)),
    (1, ("",)),
    (1, ("A",)),
    (1, ("1",)),
    (2, ("a", "{")),
    (2, ("`", "a")),
    (1, ("a", "\u00e9")),
    (1, ("a", "bc")),
]

KINDS = [
    (1, ("a",)),
    (1, ("a", "b")),
    (1, ("b", "k", "z")),
    (2, ("a",)),
    (2, ("c", "x")),
    (2, ("a", "b", "c")),
]


def word(letters):
    """The word with these letters."""
    shape = ()
    for letter in reversed(letters):
        shape = (letter, shape)
    return shape


def plain_text(shape):
    if not shape:
        return "."
    if len(shape) == 2:
        return shape[0] + plain_text(shape[1])
    return shape[0] + "(" + plain_text(shape[1]) + "," + plain_text(shape[2]) + ")"


def plain_paths(shape):
    """The paths of a shape, in no told order."""
    found = [()] if shape else []
    for step, child in enumerate(shape[1:]):
        found += [(step,) + path for path in plain_paths(child)]
    return found


def plain_shapes(ways, labels, size):
    """All shapes of a size, with any values as labels, in no told order."""
    if size == 0:
        return [()]
    found = []
    for sizes in itertools.product(range(size), repeat=ways):
        if sum(sizes) == size - 1:
            choices = [plain_shapes(ways, labels, some) for some in sizes]
            found += [(label,) + children for label in labels for children in itertools.product(*choices)]
    return found


def plain_signs(kind, tracks):
    return sorted(itertools.product(kind[1], itertools.product((0, 1), repeat=tracks)))


def plain_at(shape, path):
    for step in path:
        shape = shape[1 + step]
    return shape


def plain_mark(shape, sets, path=()):
    """The marked shape with a track for each set of paths."""
    if not shape:
        return ()
    sign = (shape[0], tuple(int(path in some) for some in sets))
    return (sign,) + tuple(plain_mark(child, sets, path + (step,)) for step, child in enumerate(shape[1:]))


def entry(machine, row, states):
    """What stands in a row of the table above some states."""
    found = machine[2][row]
    for state in states:
        found = found[state]
    return found


def plain_state(machine, marked):
    if not marked:
        return 0
    row = plain_signs(machine[0], machine[1]).index(marked[0])
    return entry(machine, row, [plain_state(machine, child) for child in marked[1:]])


def small_marked(kind, tracks, most):
    """All marked shapes up to a size."""
    signs = plain_signs(kind, tracks)
    return [shape for size in range(most + 1) for shape in plain_shapes(kind[0], signs, size)]


def make_machine(kind, tracks, count, above, good):
    """A machine with the state above(sign, states of the children) and the good states."""
    rows = []
    for sign in plain_signs(kind, tracks):
        if kind[0] == 1:
            rows.append(tuple(above(sign, (one,)) for one in range(count)))
        else:
            rows.append(tuple(tuple(above(sign, (one, other)) for other in range(count)) for one in range(count)))
    return kind, tracks, tuple(rows), tuple(state in good for state in range(count))


def random_machine(random, kind, tracks, count):
    good = [state for state in range(count) if random.random() < 0.4]
    return make_machine(kind, tracks, count, lambda sign, states: random.randrange(count), good)


def inflated(random, machine, copies):
    """A machine that accepts the same, with several copies of each state, and some without shapes."""
    count = len(machine[3])
    fresh = count * copies

    def above(sign, states):
        row = plain_signs(machine[0], machine[1]).index(sign)
        if max(states) >= fresh:
            return random.randrange(fresh + 2)
        return entry(machine, row, [state % count for state in states]) + count * random.randrange(copies)

    good = [state for state in range(fresh) if machine[3][state % count]] + [fresh]
    return make_machine(machine[0], machine[1], fresh + 2, above, good)


def counting(kind, modulus, good=None):
    """The machine without tracks that counts all labels up to a modulus."""
    return make_machine(
        kind, 0, modulus, lambda sign, states: (sum(states) + 1) % modulus, [0] if good is None else good
    )


def found_in_order(ways, rows, start, above):
    """All that is found from `start` on, in the order of point 12."""
    found = [start]
    places = {start: 0}
    for n in itertools.count():
        if n == len(found):
            return found
        combinations = [(n,)] if ways == 1 else [(k, n) for k in range(n)] + [(n, k) for k in range(n + 1)]
        for row in range(rows):
            for some in combinations:
                new = above(row, [found[k] for k in some])
                if new not in places:
                    places[new] = len(found)
                    found.append(new)


def machine_order(machine):
    """The states with marked shapes, in the order of point 12."""
    return found_in_order(machine[0][0], len(machine[2]), 0, lambda row, states: entry(machine, row, states))


def plain_classes(machine):
    """A class for each state, the same for alike ones; all states belong to marked shapes."""
    kind, _, table, good = machine
    classes = [int(truth) for truth in good]
    while True:
        known = {}
        finer = []
        for state in range(len(good)):
            seen = [classes[state]]
            for row in table:
                if kind[0] == 1:
                    seen.append(classes[row[state]])
                else:
                    seen += [classes[goal] for goal in row[state]]
                    seen += [classes[line[state]] for line in row]
            finer.append(known.setdefault(tuple(seen), len(known)))
        if len(set(finer)) == len(set(classes)):
            return finer
        classes = finer


def renamed(machine, order, class_of):
    """The machine over the classes of some states: `order` has a state for each class."""
    kind, tracks, table, good = machine
    numbers = {class_of[state]: number for number, state in enumerate(order)}

    def row_of(row, ways):
        if ways == 0:
            return numbers[class_of[row]]
        return tuple(row_of(row[state], ways - 1) for state in order)

    return kind, tracks, tuple(row_of(row, kind[0]) for row in table), tuple(good[state] for state in order)


def plain_least(machine):
    """The least machine, step by step as point 12 tells it."""
    order = machine_order(machine)
    machine = renamed(machine, order, {state: state for state in order})
    classes = plain_classes(machine)
    first = {}
    for state, name in enumerate(classes):
        first.setdefault(name, state)
    machine = renamed(machine, list(first.values()), classes)
    order = machine_order(machine)
    return renamed(machine, order, {state: state for state in order})


def met_together(machines, rows):
    """All tuples of states, one of each machine, that belong to one marked shape.

    `rows` has for each sign a tuple with the row of each machine.
    """
    def above(row, states):
        return tuple(
            entry(machine, place, [some[k] for some in states])
            for k, (machine, place) in enumerate(zip(machines, rows[row]))
        )

    return found_in_order(machines[0][0][0], len(rows), (0,) * len(machines), above)


def same_accepted(first, second):
    """Whether two machines with the same tracks accept the same marked shapes."""
    rows = [(row, row) for row in range(len(first[2]))]
    return all(first[3][one] == second[3][other] for one, other in met_together([first, second], rows))


def with_mark(sign, track, one):
    """A sign with one mark more."""
    label, marks = sign
    return label, marks[:track] + (one,) + marks[track:]


def hides(machine, track, result):
    """Whether `result` accepts what the machine accepts with some marks on a track, for all marked shapes."""
    kind, tracks = machine[:2]
    signs = plain_signs(kind, tracks)
    pairs = [[signs.index(with_mark(sign, track, one)) for one in (0, 1)] for sign in plain_signs(kind, tracks - 1)]

    def above(row, children):
        state = entry(result, row, [child[1] for child in children])
        states = {
            entry(machine, place, some)
            for place in pairs[row]
            for some in itertools.product(*[child[0] for child in children])
        }
        return tuple(sorted(states)), state

    met = found_in_order(kind[0], len(pairs), ((0,), 0), above)
    return all(any(machine[3][one] for one in states) == result[3][state] for states, state in met)


# Formulas.

ATOMS = [
    ("true",), ("label", "a", "x"), ("label", "b", "x"), ("child", 0, "x", "y"), ("child", 0, "y", "x"),
    ("child", 0, "x", "x"), ("child", 1, "x", "y"), ("child", 1, "y", "x"), ("child", 1, "x", "x"),
    ("below", "x", "y"), ("below", "y", "x"), ("below", "x", "x"), ("same", "x", "y"), ("same", "y", "x"),
    ("same", "x", "x"), ("top", "x"), ("in", "x", "X"), ("inside", "X", "Y"), ("inside", "Y", "X"),
    ("inside", "X", "X"),
]


def atoms_for(kind):
    """The atoms that fit a kind, if it has the labels a and b."""
    return [atom for atom in ATOMS if atom[0] != "child" or atom[1] < kind[0]]


def plain_inner(formula):
    return [part for part in formula if isinstance(part, tuple)]


def plain_free(formula):
    """The free variables, in no told order."""
    word = formula[0]
    if word in ("some", "all", "someset", "allset"):
        return plain_free(formula[2]) - {formula[1]}
    if plain_inner(formula):
        return set().union(*[plain_free(part) for part in plain_inner(formula)])
    return set(formula[2:] if word in ("label", "child") else formula[1:])


def subsets(known):
    return [some for length in range(len(known) + 1) for some in itertools.combinations(known, length)]


def plain_holds(formula, shape, values):
    """Point 6, word by word; set variables have tuples of paths."""
    word = formula[0]
    known = sorted(plain_paths(shape))
    if word == "not":
        return not plain_holds(formula[1], shape, values)
    if word == "and":
        return all(plain_holds(part, shape, values) for part in formula[1:])
    if word == "or":
        return any(plain_holds(part, shape, values) for part in formula[1:])
    if word in ("some", "all", "someset", "allset"):
        choices = subsets(known) if word.endswith("set") else known
        truths = [plain_holds(formula[2], shape, {**values, formula[1]: one}) for one in choices]
        return any(truths) if word.startswith("some") else all(truths)
    if word == "true":
        return True
    if word == "label":
        return plain_at(shape, values[formula[2]])[0] == formula[1]
    if word == "child":
        return values[formula[3]] == values[formula[2]] + (formula[1],)
    first, last = values[formula[1]], values[formula[-1]]
    if word == "below":
        return len(last) > len(first) and last[:len(first)] == first
    if word == "same":
        return first == last
    if word == "top":
        return first == ()
    return first in last if word == "in" else all(path in last for path in first)


def choices_of(shape, names):
    """All dicts with values for these variables in a shape."""
    known = sorted(plain_paths(shape))
    each = [known if name[0].islower() else subsets(known) for name in names]
    return [dict(zip(names, some)) for some in itertools.product(*each)]


def meant(formula, shape, sets):
    """Whether the machine of a formula has to accept a shape with these sets of marks, one for each of
    its free variables, in ascending order."""
    names = sorted(plain_free(formula))
    if any(name[0].islower() and len(some) != 1 for name, some in zip(names, sets)):
        return False
    values = {name: some[0] if name[0].islower() else some for name, some in zip(names, sets)}
    return plain_holds(formula, shape, values)


def random_formula(random, kind, singles, sets, deep):
    """A formula whose free variables are some of these."""
    if deep == 1 or random.random() < 0.15:
        return random_atom(random, kind, singles, sets)
    word = random.choice(["not", "and", "or", "some", "all", "some", "all", "someset", "allset"])
    if word in ("not", "and", "or"):
        inside = [random_formula(random, kind, singles, sets, deep - 1) for _ in range(1 if word == "not" else 2)]
        return (word, *inside)
    if word.endswith("set"):
        name = random.choice("XY")
        return word, name, random_formula(random, kind, singles, sorted({*sets, name}), deep - 1)
    name = random.choice("xyz")
    return word, name, random_formula(random, kind, sorted({*singles, name}), sets, deep - 1)


def random_atom(random, kind, singles, sets):
    choices = [("true",)]
    if singles:
        x, y = random.choice(singles), random.choice(singles)
        choices += [("label", random.choice(kind[1]), x), ("child", random.randrange(kind[0]), x, y), ("below", x, y),
                    ("same", x, y), ("top", x)]
        choices += [("in", x, random.choice(sets))] if sets else []
    if sets:
        choices.append(("inside", random.choice(sets), random.choice(sets)))
    return random.choice(choices)


def random_shape(random, kind, size):
    if size == 0:
        return ()
    if kind[0] == 1:
        return random.choice(kind[1]), random_shape(random, kind, size - 1)
    first = random.randrange(size)
    return random.choice(kind[1]), random_shape(random, kind, first), random_shape(random, kind, size - 1 - first)


def random_sets(random, shape, names):
    """For each variable a tuple of paths: mostly one path for an element variable."""
    known = sorted(plain_paths(shape))
    found = []
    for name in names:
        some = tuple(path for path in known if random.random() < 0.4)
        if name[0].islower() and known and random.random() < 0.9:
            some = (random.choice(known),)
        found.append(some)
    return found


def nested(word, deep, inside=("true",)):
    """A formula in which a word stands around others so often that it is so deep."""
    formula = inside
    for _ in range(deep - 1):
        formula = {
            "not": ("not", formula), "and": ("and", formula, ("true",)), "or": ("or", ("true",), formula),
            "some": ("some", "x", formula), "all": ("all", "x", formula),
            "someset": ("someset", "X", formula), "allset": ("allset", "X", formula),
        }[word]
    return formula


def letter_at(distance, label="a"):
    """The element this far below the top, on the way of first children, is there and has a label. In words the
    machine of this sentence has to know so many letters, and one more: 2 << distance states for two labels."""
    formula = ("label", label, "xy"[distance % 2])
    for k in reversed(range(distance)):
        here, there = "xy"[k % 2], "yx"[k % 2]
        formula = ("some", there, ("and", ("child", 0, here, there), formula))
    return ("some", "x", ("and", ("top", "x"), formula))


def full_tree(height, name="x"):
    """At an element there is a tree with this height in which no child is missing but below the last row."""
    other = "y" if name == "x" else "x"
    if height == 1:
        return f"not some {other}: (child 0({name}, {other}) or child 1({name}, {other}))"
    inside = full_tree(height - 1, other)
    return " and ".join(f"some {other}: (child {k}({name}, {other}) and ({inside}))" for k in (0, 1))


# Papers.

CORES = """
    not label a(x) | not true | not in(x, X) | not not child 0(x, y) | not inside(X, Y)
    label a(x) and label b(y) | below(x, y) and in(y, X) | true and true | same(x, x) and top(y)
    label a(x) or top(x) | below(y, x) or in(x, X) | inside(X, Y) or inside(Y, X) | top(x) or top(y)
    some x: label a(x) | some y: below(x, y) | some x: in(x, X) | some y: child 0(y, x) | some x: (top(x) and in(x, X))
    some x: true | some y: top(x) | some x: inside(X, X) | some z: not top(x) | some x: some x: label b(x)
    some X: in(x, X) | some Y: inside(X, Y) | some X: not in(x, X) | some X: (in(x, X) and not in(y, X))
    some X: true | some Y: in(x, X) | some Z: some x: in(x, X) | some X: not some X: inside(X, Y)
    not some x: not label a(x) | some x: (label a(x) and not some y: below(x, y)) | not some X: not in(x, X)
    not (below(x, y) or not top(x)) | some x: some y: (below(x, y) and label b(y) or not true)
"""


def marks_of(marked, tracks):
    """A marked shape with the marks of some of its tracks."""
    if not marked:
        return ()
    label, marks = marked[0]
    return ((label, tuple(marks[track] for track in tracks)),) + tuple(marks_of(part, tracks) for part in marked[1:])


def all_marks(marked):
    """The marked shape with any marks on one track more, which is the last one."""
    if not marked:
        return [()]
    label, marks = marked[0]
    return [
        ((label, marks + (one,)), *children)
        for one in (0, 1) for children in itertools.product(*[all_marks(part) for part in marked[1:]])
    ]


def signs_in(marked):
    return [marked[0]] + [sign for part in marked[1:] for sign in signs_in(part)] if marked else []


def plain_note(formula, machines, marked):
    """The note of a marked shape, as point 15 tells it, with the machines of the formulas directly inside."""
    word = formula[0]
    names = sorted(plain_free(formula))
    inner_names = [sorted(plain_free(part)) for part in plain_inner(formula)]
    if word in ("not", "and", "or"):
        states = [
            plain_state(machine, marks_of(marked, [names.index(name) for name in some]))
            for machine, some in zip(machines, inner_names)
        ]
        singles = [track for track, name in enumerate(names) if name[0].islower()]
        return (*states, tuple(min(2, sum(sign[1][track] for sign in signs_in(marked))) for track in singles))
    if formula[1] in inner_names[0]:
        tracks = [(names + [formula[1]]).index(name) for name in inner_names[0]]
        return tuple(sorted({plain_state(machines[0], marks_of(some, tracks)) for some in all_marks(marked)}))
    state = plain_state(machines[0], marked)
    return (state, int(bool(marked))) if word == "some" else (state,)


def is_good_note(formula, machines, note):
    """Whether a state of raw with this note is good."""
    word = formula[0]
    good = [machine[3] for machine in machines]
    if word in ("not", "and", "or"):
        truths = [some[state] for some, state in zip(good, note)]
        met = {"not": not truths[0], "and": all(truths), "or": any(truths)}[word]
        return met and all(count == 1 for count in note[-1])
    if formula[1] in plain_free(formula[2]):
        return any(good[0][state] for state in note)
    return good[0][note[0]] and note[1:] != (0,)


def plain_note_above(formula, machines, sign, notes):
    """The note above these notes of the children."""
    word = formula[0]
    label, marks = sign
    kind = machines[0][0]
    names = sorted(plain_free(formula))
    inner_names = [sorted(plain_free(part)) for part in plain_inner(formula)]

    def state_above(k, values, states):
        row = plain_signs(kind, len(inner_names[k])).index((label, tuple(values[name] for name in inner_names[k])))
        return entry(machines[k], row, states)

    values = dict(zip(names, marks))
    if word in ("not", "and", "or"):
        states = [state_above(k, values, [note[k] for note in notes]) for k in range(len(machines))]
        singles = [name for name in names if name[0].islower()]
        counts = [min(2, values[name] + sum(note[-1][k] for note in notes)) for k, name in enumerate(singles)]
        return (*states, tuple(counts))
    if formula[1] in inner_names[0]:
        choices = [{**values, formula[1]: one} for one in (0, 1)]
        return tuple(sorted({
            state_above(0, some, states) for some in choices for states in itertools.product(*notes)
        }))
    state = state_above(0, values, [note[0] for note in notes])
    return (state, 1) if word == "some" else (state,)


def plain_paper(random, kind, formula, atom_machine, copies=1, more=()):
    """A paper made otherwise: the states of raw are in any order, `copies` of them for each note, also for
    the notes in `more` and what stands above them; machine is raw itself, also in the parts."""
    if not plain_inner(formula):
        return atom_machine(kind, formula), (), (), (), ()
    parts = tuple(plain_paper(random, kind, part, atom_machine, copies) for part in plain_inner(formula))
    machines = [part[0] for part in parts]
    signs = plain_signs(kind, len(plain_free(formula)))
    first = plain_note(formula, machines, ())
    steps = {}
    known = [first, *more]
    while len(steps) < len(signs) * len(known) ** kind[0]:
        for sign, some in itertools.product(signs, itertools.product(list(known), repeat=kind[0])):
            if (sign, some) not in steps:
                steps[sign, some] = plain_note_above(formula, machines, sign, some)
                known += [] if steps[sign, some] in known else [steps[sign, some]]
    notes = known * copies
    notes.remove(first)
    random.shuffle(notes)
    notes.insert(0, first)
    places = {}
    for place, note in enumerate(notes):
        places.setdefault(note, []).append(place)
    raw = make_machine(
        kind, len(plain_free(formula)), len(notes),
        lambda sign, states: random.choice(places[steps[sign, tuple(notes[state] for state in states)]]),
        [place for place, note in enumerate(notes) if is_good_note(formula, machines, note)],
    )
    return raw, raw, tuple(notes), tuple(range(len(notes))), parts


# Shapes in their order, and expressions.

def in_order(kind, most):
    """All shapes up to a size, in the order of point 5."""
    return [
        shape for size in range(most + 1) for shape in sorted(plain_shapes(kind[0], kind[1], size), key=plain_text)
    ]


def first_with(shapes, test):
    return next((shape for shape in shapes if test(shape)), None)


def plain_rows(shape):
    """The rows that a tree is, written as in point 22."""
    return [(shape[0], plain_rows(shape[1]))] + plain_rows(shape[2]) if shape else []


def letters_of(shape):
    """The letters of a word, as a text."""
    return shape[0] + letters_of(shape[1]) if shape else ""


def all_texts(labels, most):
    """All words up to a length, as texts."""
    return ["".join(some) for length in range(most + 1) for some in itertools.product(labels, repeat=length)]


def plain_told(expression, most):
    """The set of the words up to a length that an expression tells, as texts: point 24, word by word."""
    form = expression[0]
    if form == "none":
        return set()
    if form == "empty":
        return {""}
    if form == "letter":
        return {expression[1]} if most else set()
    if form == "either":
        return plain_told(expression[1], most) | plain_told(expression[2], most)
    first = plain_told(expression[1], most)
    if form == "then":
        last = plain_told(expression[2], most)
        return {one + other for one in first for other in last if len(one + other) <= most}
    found = {""}
    while True:
        more = found | {one + other for one in found for other in first if len(one + other) <= most}
        if more == found:
            return found
        found = more


def random_expression(random, labels, deep):
    if deep == 1 or random.random() < 0.15:
        return random.choice([("none",), ("empty",)] + 3 * [("letter", label) for label in labels])
    form = random.choice(["then", "either", "many", "then", "either"])
    return (form, *[random_expression(random, labels, deep - 1) for _ in range(1 if form == "many" else 2)])


def balanced(form, parts):
    """Some parts joined by then or either, or by and or or, nested as little as may be."""
    while len(parts) > 1:
        parts = [(form, *parts[k:k + 2]) if k + 1 < len(parts) else parts[k] for k in range(0, len(parts), 2)]
    return parts[0]


def spelled(text):
    """The expression that tells one word."""
    return balanced("then", [("letter", letter) for letter in text])
