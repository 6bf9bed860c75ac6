"""Machines that read marked shapes, and what can be made of them."""

from treesays.alike import merged
from treesays.choices import Choices
from treesays.errors import TooLarge
from treesays.growing import at_places, each_once, entry, grown
from treesays.shapes import check_kind, folded, is_kind, is_whole, labels_of, paths, with_labels

MOST_TRACKS = 6
MOST_STATES = 300


def is_machine(value):
    """Whether a value is a machine."""
    if not isinstance(value, tuple) or len(value) != 4:
        return False
    kind, tracks, table, good = value
    if not is_kind(kind) or not is_whole(tracks) or not 0 <= tracks <= MOST_TRACKS:
        return False
    if not isinstance(good, tuple) or not 1 <= len(good) <= MOST_STATES:
        return False
    if not all([isinstance(truth, bool) for truth in good]):
        return False
    if not isinstance(table, tuple) or len(table) != len(signs(kind, tracks)):
        return False
    return all([_is_row(row, kind[0], len(good)) for row in table])


def _is_row(row, ways, count):
    """Whether a value is a row for some ways to children, each with so many states."""
    if not isinstance(row, tuple) or len(row) != count:
        return False
    if ways == 1:
        return all([is_whole(state) and 0 <= state < count for state in row])
    return all([_is_row(line, ways - 1, count) for line in row])


def signs(kind, tracks):
    """The ascending list of all signs."""
    check_kind(kind)
    marks = [()]
    for _ in range(tracks):
        marks = [some + (one,) for some in marks for one in (0, 1)]
    return [(label, some) for label in kind[1] for some in marks]


def state_of(machine, marked):
    """The state of a marked shape."""
    kind, tracks, table, _ = machine
    rows = {sign: row for sign, row in zip(signs(kind, tracks), table)}
    return folded(marked, 0, lambda sign, states: entry(rows[sign], states))


def accepts(machine, marked):
    """Whether a machine accepts a marked shape."""
    return machine[3][state_of(machine, marked)]


def mark(shape, sets):
    """The marked shape with a track for each of the tuples of paths."""
    tracks = [{path: True for path in chosen} for chosen in sets]
    marks = [tuple([1 if path in track else 0 for track in tracks]) for path in paths(shape)]
    return with_labels(shape, list(zip(labels_of(shape), marks)))


def least(machine):
    """The least machine that accepts the same."""
    kind, tracks, table, good = machine
    # Rows that are equal find the same and part the same, so one of them is enough.
    rows, places = each_once(table)
    states, rows = _reached(kind[0], rows)
    return shrunk(kind, tracks, places, rows, [good[state] for state in states])


def _reached(ways, rows):
    """The states that belong to some marked shape, in the order of their new numbers, and the rows for these."""
    if ways == 1:
        return grown(ways, len(rows), 0, lambda row, child: rows[row][child], None)
    return grown(ways, len(rows), 0, lambda row, first, second: rows[row][first][second], None)


def shrunk(kind, tracks, places, rows, truths):
    """The least machine for rows and good states that have grown; `places` has the place among the
    rows for each sign."""
    fewer, good, _ = merged(kind[0], rows, truths)
    return kind, tracks, at_places(fewer, places), good


def denied(machine):
    """The least machine that accepts what a machine does not accept."""
    kind, tracks, table, good = _least_within(machine)
    # What is alike, and how the states are found, does not change by this.
    return kind, tracks, table, tuple([not truth for truth in good])


def joined(first, second, both):
    """The least machine that accepts what both machines accept or, if not `both`, one of them."""
    kind, tracks, table, good = least(first)
    other_table, other_good = least(second)[2:]
    pairs, places = each_once(list(zip(table, other_table)))
    states, rows = grown(kind[0], len(pairs), (0, 0), _pair_above(kind[0], pairs), MOST_STATES)
    if both:
        truths = [good[one] and other_good[other] for one, other in states]
    else:
        truths = [good[one] or other_good[other] for one, other in states]
    return shrunk(kind, tracks, places, rows, truths)


def _pair_above(ways, pairs):
    """The function that tells the pair of states above pairs of states, for pairs of rows."""
    def above_child(row, child):
        one, other = pairs[row]
        return one[child[0]], other[child[1]]

    def above_children(row, first, second):
        one, other = pairs[row]
        return one[first[0]][second[0]], other[first[1]][second[1]]

    if ways == 1:
        return above_child
    return above_children


def hidden(machine, track):
    """The least machine without a track that accepts what the machine accepts with some marks on it."""
    machine = least(machine)
    kind, tracks, _, good = machine
    pairs, places = each_once(row_pairs(machine, track))
    choices = Choices(kind[0], pairs, len(good))
    if kind[0] == 1:
        above = choices.above_child
    else:
        above = choices.above_children
    # The bit 0 alone: the empty shape has the state 0, whatever the marks.
    sets, rows = grown(kind[0], len(pairs), 1, above, MOST_STATES)
    truths = [any([good[state] for state in choices.states(chosen)]) for chosen in sets]
    return shrunk(kind, tracks - 1, places, rows, truths)


def row_pairs(machine, track):
    """The pairs of rows whose signs differ on one track alone."""
    tracks, table = machine[1:3]
    step = 1 << (tracks - 1 - track)
    return [(table[start + k], table[start + step + k])
            for start in range(0, len(table), 2 * step) for k in range(step)]


def spread(machine, track):
    """The least machine with one track more, to which it pays no attention."""
    kind, tracks, table, good = _least_within(machine)
    step = 1 << (tracks - track)
    # Each run of rows stands twice. A row finds nothing new the second time,
    # so the states are found in the same order.
    rows = []
    for start in range(0, len(table), step):
        rows.extend(table[start:start + step] * 2)
    return kind, tracks + 1, tuple(rows), good


def _least_within(machine):
    """The least machine that accepts the same; raises TooLarge if it has too many states."""
    found = least(machine)
    if len(found[3]) > MOST_STATES:
        raise TooLarge("the machine has too many states")
    return found
