"""Kinds and shapes: their elements, their texts and their order."""

from treesays.errors import InvalidKind, InvalidShape, NoSuchElement, TooLarge

MOST_LABELS = 3
MOST_SHAPES = 20000


def is_whole(value):
    """Whether a value is an integer; True and False are none."""
    return isinstance(value, int) and not isinstance(value, bool)


def is_kind(value):
    """Whether a value is a kind."""
    if not isinstance(value, tuple) or len(value) != 2:
        return False
    ways, labels = value
    if not is_whole(ways) or ways not in (1, 2):
        return False
    if not isinstance(labels, tuple) or not 1 <= len(labels) <= MOST_LABELS:
        return False
    if not all([_is_letter(label) for label in labels]):
        return False
    return list(labels) == sorted(set(labels))


def _is_letter(value):
    return isinstance(value, str) and len(value) == 1 and "a" <= value <= "z"


def check_kind(kind):
    """Raise InvalidKind if a tuple is no kind."""
    if not is_kind(kind):
        raise InvalidKind("a kind is (1 or 2, one to three different letters, ascending)")


def is_shape(kind, value):
    """Whether a value is a shape of a kind."""
    check_kind(kind)
    ways, labels = kind
    waiting = [value]
    while waiting:
        now = waiting.pop()
        if not isinstance(now, tuple):
            return False
        if now and (len(now) != ways + 1 or now[0] not in labels):
            return False
        waiting.extend(now[1:])
    return True


# Shapes may be nested deeper than calls of functions may be, so what goes
# through a shape does it in a loop, with a list of the parts that wait.

def _parts(shape):
    """All parts, also the missing ones, in ascending order of their paths."""
    waiting = [shape]
    found = []
    while waiting:
        now = waiting.pop()
        found.append(now)
        waiting.extend(list(reversed(now[1:])))
    return found


def labels_of(shape):
    """The labels of all elements, in ascending order of the elements."""
    return [now[0] for now in _parts(shape) if now]


def folded(shape, bottom, above):
    """What comes out if the empty shape gives `bottom`, and each element what
    `above` tells of its label and the list of what its children gave."""
    done = []
    for now in reversed(_parts(shape)):
        if now:
            children = [done.pop() for _ in now[1:]]
            done.append(above(now[0], children))
        else:
            done.append(bottom)
    return done[0]


def with_labels(shape, labels):
    """The shape with other labels: the list gives them in ascending order of the elements."""
    left = list(labels)
    done = []
    for now in reversed(_parts(shape)):
        if now:
            children = [done.pop() for _ in now[1:]]
            done.append((left.pop(), *children))
        else:
            done.append(())
    return done[0]


def size(shape):
    """The number of labels in a shape."""
    return len(labels_of(shape))


def paths(shape):
    """The ascending list of the paths of all elements."""
    waiting = [((), shape)]
    found = []
    while waiting:
        path, now = waiting.pop()
        if now:
            found.append(path)
        for step in reversed(range(len(now[1:]))):
            waiting.append((path + (step,), now[step + 1]))
    return found


def part(shape, path):
    """The shape at and below the element with this path."""
    found = _way_to(shape, path)[-1]
    if not found:
        raise NoSuchElement("there is no element with this path")
    return found


def with_part(shape, path, new):
    """The shape with another part at a path; a child that is missing there may be the old one."""
    way = _way_to(shape, path)
    for step, old in reversed(list(zip(path, way))):
        new = old[:step + 1] + (new,) + old[step + 2:]
    return new


def _way_to(shape, path):
    """The parts on the way from the top to what stands at a path, the empty shape for a missing child."""
    way = [shape]
    for step in path:
        now = way[-1]
        if not 0 <= step < len(now) - 1:
            raise NoSuchElement("there is nothing at this path")
        way.append(now[step + 1])
    return way


def write_shape(shape):
    """The text of a shape."""
    return folded(shape, ".", _text_above)


def _text_above(label, texts):
    if len(texts) == 1:
        return label + texts[0]
    return f"{label}({texts[0]},{texts[1]})"


def read_shape(kind, text):
    """The shape of a kind with this text."""
    check_kind(kind)
    ways, labels = kind
    done = []
    # From the right to the left the children of a label stand ready when it comes.
    for sign in reversed(text):
        if sign == ".":
            done.append(())
        elif sign in labels and len(done) >= ways:
            children = [done.pop() for _ in range(ways)]
            done.append((sign, *children))
    # All other signs were passed over: the text tells whether they stood right.
    if len(done) != 1 or write_shape(done[0]) != text:
        raise InvalidShape("no shape of this kind has this text")
    return done[0]


def all_shapes(kind, count):
    """The ascending list of all shapes of a kind with `count` labels."""
    check_kind(kind)
    if count < 0:
        return []
    _check_number(kind, count)
    by_size = [[()]]
    while len(by_size) <= count:
        by_size.append(_one_larger(kind, by_size))
    return sorted(by_size[count], key=write_shape)


def _check_number(kind, count):
    """Raise TooLarge if there are too many shapes with this size."""
    ways, labels = kind
    numbers = [1]
    # With each label more there are at least as many shapes, so the first
    # number that is too large settles it.
    while len(numbers) <= count and numbers[-1] <= MOST_SHAPES:
        below = numbers[-1]
        if ways == 2:
            below = sum([one * other for one, other in zip(numbers, numbers[::-1])])
        numbers.append(len(labels) * below)
    if numbers[-1] > MOST_SHAPES:
        raise TooLarge("there are too many shapes with this size")


def _one_larger(kind, by_size):
    """The shapes with one label more than the last ones of a list, which has them size by size."""
    ways, labels = kind
    if ways == 1:
        return [(label, child) for label in labels for child in by_size[-1]]
    return [
        (label, first, second)
        for label in labels
        for firsts, seconds in zip(by_size, by_size[::-1])
        for first in firsts
        for second in seconds
    ]
