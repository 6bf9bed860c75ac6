"""Schemas, which tell the rows of labels that a document may have."""

from treesays.errors import InvalidSentence
from treesays.expressions import check_expression, expression_machine
from treesays.finding import least_accepted
from treesays.formulas import check_sentence
from treesays.growing import grown
from treesays.machines import MOST_STATES, denied, joined, shrunk
from treesays.making import lost_state, machine_of
from treesays.shapes import folded

# The meaning of all rows with which no document keeps a schema.
LOST = ()


def keeps_schema(labels, schema, shape):
    """Whether the document with a tree keeps a schema."""
    _check_schema(labels, schema)
    rows = Rows(labels, schema)
    numbers = {label: number for number, label in enumerate(labels)}
    return rows.is_good(folded(shape, rows.start, lambda label, two: rows.above(numbers[label], two[0], two[1])))


def schema_machine(labels, schema):
    """The machine of a schema."""
    _check_schema(labels, schema)
    rows = Rows(labels, schema)
    meanings, table = grown(2, len(labels), rows.start, rows.above, MOST_STATES)
    truths = [rows.is_good(meaning) for meaning in meanings]
    return shrunk((2, labels), 0, list(range(len(labels))), table, truths)


def least_kept(labels, schema):
    """The least shape that keeps a schema, or None."""
    return least_accepted(schema_machine(labels, schema))


def least_stray(labels, first, second):
    """The least shape that keeps one schema and not another one, or None."""
    _check_schema(labels, first)
    _check_schema(labels, second)
    return _least_without(schema_machine(labels, first), schema_machine(labels, second))


def least_unlike(labels, schema, sentence):
    """The least shape that keeps a schema and in which a sentence does not hold, or None."""
    machine = schema_machine(labels, schema)
    check_sentence((2, labels), sentence)
    return _least_without(machine, machine_of((2, labels), sentence))


def _least_without(machine, other):
    """The least shape that a machine accepts and another one does not, or None."""
    return least_accepted(joined(machine, denied(other), True))


def _check_schema(labels, schema):
    """Raise the first error that there is in a schema."""
    top, rules = schema
    for expression in (top, *rules):
        check_expression((1, labels), expression)
    if len(rules) != len(labels):
        raise InvalidSentence("a schema has one rule for each label")


class Rows:
    """What rows of items mean for a schema.

    A meaning is a tuple with a state for each of its expressions, to which the
    word of the labels of the row leads, if all that is inside of its items is
    as it has to be.
    """

    def __init__(self, labels, schema):
        top, rules = schema
        self.machines = [expression_machine((1, labels), expression) for expression in (top, *rules)]
        self.lost = [lost_state(machine) for machine in self.machines]
        self.start = (0,) * len(self.machines)

    def above(self, row, inside, behind):
        """The meaning of a row that begins with an item with the label of this number."""
        if LOST in (inside, behind) or not self.machines[row + 1][3][inside[row + 1]]:
            return LOST
        states = [machine[2][row][state] for machine, state in zip(self.machines, behind)]
        # Such a row can be neither outermost nor inside of an item.
        return LOST if states == self.lost else tuple(states)

    def is_good(self, meaning):
        """Whether a document with this outermost row keeps the schema."""
        return meaning != LOST and self.machines[0][3][meaning[0]]


def tree_of_rows(rows):
    """The tree of a document with these rows."""
    # The label of each item, and None for the end of each row, in ascending order of their paths.
    found = []
    waiting = [(rows, 0)]
    while waiting:
        row, place = waiting.pop()
        if place < len(row):
            label, inside = row[place]
            found.append(label)
            waiting.extend([(row, place + 1), (inside, 0)])
        else:
            found.append(None)
    done = []
    for label in reversed(found):
        children = () if label is None else (label, done.pop(), done.pop())
        done.append(children)
    return done[0]


def rows_of_tree(shape):
    """The rows of a document with this tree."""
    # Each list is made anew, also the empty ones.
    return list(folded(shape, [], lambda label, below: [(label, list(below[0])), *below[1]]))
