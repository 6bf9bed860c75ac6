"""Which states of a machine are alike."""


class Parting:
    """Classes of states, in which those that are alike stay together."""

    def __init__(self, good):
        states = range(len(good))
        self.class_of = [1 if good[state] else 0 for state in states]
        self.members = [[state for state in states if not good[state]],
                        [state for state in states if good[state]]]
        # What leads to some class has to part the others. One of these two is
        # enough: what does not lead to it leads to the other one.
        self.waiting = [1]

    def is_finest(self):
        """Whether no class has two states."""
        return all([len(states) < 2 for states in self.members])

    def part_off(self, states):
        """Part each class into those that are among these states and the others."""
        touched = {}
        for state in states:
            touched.setdefault(self.class_of[state], []).append(state)
        for name, inside in touched.items():
            if len(inside) < len(self.members[name]):
                self._divide(name, inside)

    def _divide(self, name, inside):
        """Part a class into these states and the others."""
        chosen = {state: True for state in inside}
        outside = [state for state in self.members[name] if state not in chosen]
        smaller, larger = inside, outside
        if len(outside) < len(inside):
            smaller, larger = outside, inside
        fresh = len(self.members)
        for state in smaller:
            self.class_of[state] = fresh
        self.members[name] = larger
        self.members.append(smaller)
        # If the old class waits, both parts wait now. If not, all was parted by
        # what leads to it as a whole; then one part tells the other one, and
        # the smaller one is less work.
        self.waiting.append(fresh)


def alike_numbers(ways, rows, good):
    """A number for each state, the same one for two states exactly if they are
    alike. They are numbered in the order of the first states that have them.

    `rows` are the rows of a table in which each state belongs to some marked shape.
    """
    parting = Parting(good)
    arrivals = _arrivals(_moves(ways, rows), len(good))
    while parting.waiting and not parting.is_finest():
        goals = parting.members[parting.waiting.pop()]
        for states in _sources(arrivals, goals):
            parting.part_off(states)
    numbers = {}
    for name in parting.class_of:
        numbers.setdefault(name, len(numbers))
    return [numbers[name] for name in parting.class_of]


def merged(ways, rows, truths):
    """The rows and good states of the least machine, and for each state the one that it is there.

    `rows` are the rows of a table whose states are numbered in the order in which they are found.
    """
    numbers = alike_numbers(ways, rows, truths)
    # An alike state that was found first was found from such ones: from later
    # ones it would have been found later. So these keep their order.
    leaders = [numbers.index(number) for number in range(max(numbers) + 1)]
    fewer = [_merged_row(row, ways, leaders, numbers) for row in rows]
    return fewer, tuple([truths[state] for state in leaders]), numbers


def _merged_row(row, ways, leaders, numbers):
    """The row for the leaders alone, with the numbers of the states that stand there."""
    if ways == 1:
        return tuple([numbers[row[state]] for state in leaders])
    return tuple([_merged_row(row[state], ways - 1, leaders, numbers) for state in leaders])


def _moves(ways, rows):
    """All ways in which the state of one child settles the state above it, while the row and the
    other child stay as they are: tuples with a state for each state, each only once."""
    moves = {}
    for row in rows:
        if ways == 1:
            moves[row] = True
        else:
            for line in row:
                moves[line] = True
            for line in zip(*row):
                moves[line] = True
    return list(moves)


def _arrivals(moves, count):
    """For each state the pairs of a move and a state that lead to it."""
    arrivals = [[] for _ in range(count)]
    for number, move in enumerate(moves):
        for state, goal in enumerate(move):
            arrivals[goal].append((number, state))
    return arrivals


def _sources(arrivals, goals):
    """For each move the list of the states that it leads into the goals, where there are some."""
    sources = {}
    for goal in goals:
        for number, state in arrivals[goal]:
            sources.setdefault(number, []).append(state)
    return list(sources.values())
