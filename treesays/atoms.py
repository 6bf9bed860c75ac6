"""Machines of atoms."""

from treesays.errors import InvalidSentence
from treesays.formulas import check_formula, free_variables, is_element_name
from treesays.growing import each_once, grown
from treesays.machines import shrunk, signs
from treesays.parts import inner

# The meaning of a marked shape in which an element variable has two elements:
# nothing above makes up for this.
LOST = ()


def atom_machine(kind, formula):
    """The machine of an atom or of true."""
    check_formula(kind, formula)
    if inner(formula):
        raise InvalidSentence("the formula is no atom")
    names = free_variables(formula)
    watch = Watch(formula, names)
    views, places = each_once([watch.view(sign) for sign in signs(kind, len(names))])
    if kind[0] == 1:
        meanings, rows = grown(1, len(views), (0, 0, 0), lambda row, child: watch.above(views[row], [child]), None)
    else:
        meanings, rows = grown(
            2, len(views), (0, 0, 0), lambda row, first, second: watch.above(views[row], [first, second]), None
        )
    return shrunk(kind, len(names), places, rows, [watch.is_good(meaning) for meaning in meanings])


class Watch:
    """What has to be known of marked shapes to tell whether an atom holds.

    A meaning is a tuple: an integer with a bit for each element variable that
    has its element already; whether the element of the last variable is the top
    (for below: is there at all); whether an element was met that settles the atom.
    """

    def __init__(self, atom, names):
        self.word = atom[0]
        # A label, or the number of a child, stands ahead of the variables.
        self.ahead = atom[1] if self.word in ("label", "child") else None
        variables = atom[2:] if self.word in ("label", "child") else atom[1:]
        self.tracks = [names.index(name) for name in variables]
        self.singles = [track for track, name in enumerate(names) if is_element_name(name)]

    def view(self, sign):
        """What matters of a sign: the variables that mean its element, as bits, the marks for the
        variables in their order in the atom, and whether it has the label of the atom."""
        label, marks = sign
        bits = sum([marks[track] << place for place, track in enumerate(self.singles)])
        return bits, tuple([marks[track] for track in self.tracks]), label == self.ahead

    def above(self, view, children):
        """The meaning of an element above children with these meanings."""
        bits, marks, _ = view
        for child in children:
            if child == LOST or bits & child[0]:
                return LOST
            bits |= child[0]
        met = [marks[-1]] if marks else [0]
        if self.word == "below":
            met.extend([child[1] for child in children])
        settled = [1 if self._settles(view, children) else 0]
        settled.extend([child[2] for child in children])
        return bits, max(met), max(settled)

    def _settles(self, view, children):
        """Whether an element above such children settles the atom."""
        _, marks, is_labelled = view
        if self.word in ("true", "top") or not marks[0]:
            return False
        if self.word == "label":
            return is_labelled
        if self.word == "child":
            return children[self.ahead][1] == 1
        if self.word == "below":
            return 1 in [child[1] for child in children]
        if self.word == "inside":
            return not marks[1]
        return marks[1] == 1

    def is_good(self, meaning):
        """Whether the atom holds, each of its element variables having one element."""
        if meaning == LOST:
            return False
        if self.word == "true":
            return True
        # Where the top is that of "top", or an element settles another atom,
        # all element variables have their elements.
        if self.word == "top":
            return meaning[1] == 1
        # What settles "inside" is an element that is in the first set alone.
        return (meaning[2] == 1) != (self.word == "inside")
