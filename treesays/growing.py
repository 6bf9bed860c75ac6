"""Tables of machines that grow from the state of the empty shape.

What a state stands for is called its meaning here: a number, or a tuple of
numbers. It is found when it stands above meanings that were found before.
"""

from treesays.errors import TooLarge


class Finds:
    """The meanings that were found so far, numbered in the order in which they were."""

    def __init__(self, start, most):
        self.meanings = [start]
        self.numbers = {start: 0}
        self.most = most

    def number(self, meaning):
        """The number of a meaning; a new one gets the next number."""
        if meaning not in self.numbers:
            if len(self.meanings) == self.most:
                raise TooLarge("a machine would have too many states")
            self.numbers[meaning] = len(self.meanings)
            self.meanings.append(meaning)
        return self.numbers[meaning]


def grown(ways, rows, start, above, most):
    """The list of all meanings that are found from `start` on, and the table
    with so many rows over their numbers, numbered as in a least machine.

    `above` tells the meaning that stands, by the row with a number, above the
    meaning of the child (for words) or of both (for trees). TooLarge is raised
    if there are more than `most` meanings; None sets no limit.
    """
    finds = Finds(start, most)
    lists = [[] for _ in range(rows)]
    n = 0
    while n < len(finds.meanings):
        for row in range(rows):
            if ways == 1:
                lists[row].append(finds.number(above(row, finds.meanings[n])))
            else:
                _widen(lists[row], row, above, finds)
        n += 1
    if ways == 1:
        table = tuple([tuple(states) for states in lists])
    else:
        table = tuple([tuple([tuple(line) for line in lines]) for lines in lists])
    return finds.meanings, table


def _widen(lines, row, above, finds):
    """Add to the lines of a row all pairs of children whose greater number is the next one."""
    n = len(lines)
    newest = finds.meanings[n]
    for k in range(n):
        lines[k].append(finds.number(above(row, finds.meanings[k], newest)))
    lines.append([])
    for k in range(n + 1):
        lines[n].append(finds.number(above(row, newest, finds.meanings[k])))


def each_once(rows):
    """The different ones among some rows, in the order in which they come, and
    the place of each row among them."""
    places = {}
    for row in rows:
        places.setdefault(row, len(places))
    return list(places), [places[row] for row in rows]


def at_places(table, places):
    """A table with the row at each of these places."""
    return tuple([table[place] for place in places])


def entry(row, states):
    """What stands in a row of a table above these states of the children."""
    found = row
    for state in states:
        found = found[state]
    return found
