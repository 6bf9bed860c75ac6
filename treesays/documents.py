"""Documents, which are edited while questions about them stand."""

from treesays.errors import InvalidSentence, InvalidShape, NoSuchElement, UnknownQuestion
from treesays.formulas import check_formula, free_variables, is_element_name
from treesays.making import machine_of
from treesays.schemas import rows_of_tree
from treesays.shapes import check_kind
from treesays.standing import Item, Standing, places_of, shape_of


class Document:
    """A document: rows of items, with labels and rows of items inside."""

    def __init__(self, labels):
        check_kind((2, labels))
        self._kind = (2, labels)
        # The first item of the outermost row, or None.
        self._top = None
        self._standing = {}
        # How often something was made standing.
        self._stood = 0
        # How often looked() was called, and how many items were looked at since.
        self._round = 0
        self._looks = 0

    def insert(self, place, label):
        """Put a new item at a place, ahead of the item that is there."""
        steps, behind = _way_to(self._top, place)
        self._check_label(label)
        self._top = _replaced(steps, Item(label, None, behind, None))

    def remove(self, place):
        """Take an item out, with all items inside."""
        steps, item = _way_to_item(self._top, place)
        self._top = _replaced(steps, item.behind)

    def relabel(self, place, label):
        """Give an item another label."""
        steps, item = _way_to_item(self._top, place)
        self._check_label(label)
        self._top = _replaced(steps, Item(label, item.inside, item.behind, item.seen))

    def move(self, place, goal):
        """Take an item out, with all items inside, and put it at a place of what is left."""
        steps, item = _way_to_item(self._top, place)
        left = _replaced(steps, item.behind)
        steps, behind = _way_to(left, goal)
        self._top = _replaced(steps, item.with_behind(behind))

    def label(self, place):
        """The label of an item."""
        return _way_to_item(self._top, place)[1].letter

    def rows(self):
        """The list of the items, as tuples (label, list of the items inside)."""
        return rows_of_tree(self.tree())

    def tree(self):
        """The shape that the document is."""
        return shape_of(self._top)

    def stand(self, name, formula):
        """Make a question or sentence standing under a name."""
        check_formula(self._kind, formula)
        names = free_variables(formula)
        if len(names) > 1 or not all([is_element_name(one) for one in names]):
            raise InvalidSentence("it has other free variables than one for an element")
        machine = machine_of(self._kind, formula)
        self._stood += 1
        self._standing[name] = Standing(name, self._stood, machine)

    def ask(self, name):
        """The ascending list of the places of the answers, or whether the sentence holds."""
        if name not in self._standing:
            raise UnknownQuestion("nothing stands under this name")
        standing = self._standing[name]
        self._note_looks(standing.learn_states(self._top))
        if not standing.is_question:
            return standing.good[standing.state_of(self._top)]
        self._note_looks(standing.learn_answers(self._top))
        return places_of(standing.answers_of(self._top, standing.seeker.start))

    def looked(self):
        """How many items were looked at since the last call of this method."""
        looks = self._looks
        self._looks = 0
        self._round += 1
        return looks

    def _note_looks(self, items):
        """Count these items, each once until looked() is called again."""
        for item in items:
            if item.seen != self._round:
                item.seen = self._round
                self._looks += 1

    def _check_label(self, label):
        if label not in self._kind[1]:
            raise InvalidShape("the label is none of the labels of the document")


def _way_to(top, place):
    """The items on the way to a place, each with whether the way goes on inside of it (otherwise
    behind it), and the item there; None if it is the place behind the last item of a row."""
    if not place:
        raise NoSuchElement("a place has at least one number")
    steps = []
    now = top
    for depth, number in enumerate(place):
        if depth > 0:
            if now is None:
                raise NoSuchElement("there is no item around this place")
            steps.append((now, True))
            now = now.inside
        if number < 0:
            raise NoSuchElement("the items of a row are numbered from 0 on")
        for _ in range(number):
            if now is None:
                raise NoSuchElement("the row has no such place")
            steps.append((now, False))
            now = now.behind
    return steps, now


def _way_to_item(top, place):
    """The same for a place at which there has to be an item."""
    steps, item = _way_to(top, place)
    if item is None:
        raise NoSuchElement("there is no item at this place")
    return steps, item


def _replaced(steps, item):
    """The first item of the outermost row, if another one stands at the end of a way."""
    for above, is_inside in reversed(steps):
        item = above.with_inside(item) if is_inside else above.with_behind(item)
    return item
