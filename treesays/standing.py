"""What is known of the items of a document for a standing question or sentence."""

from treesays.machines import spread
from treesays.seeking import Seeker


class Item:
    """An item with what is inside of it and what is behind it in its row, each None if nothing is.

    It never changes. An edit makes new ones of those alone in whose tree it is,
    so what is known of all others stays true of them.
    """

    def __init__(self, letter, inside, behind, seen):
        self.letter = letter
        self.inside = inside
        self.behind = behind
        self.shape = (letter, shape_of(inside), shape_of(behind))
        # The number of the round in which it was looked at last.
        self.seen = seen
        self.notes = {}

    def with_inside(self, inside):
        """The item with something else inside."""
        return Item(self.letter, inside, self.behind, self.seen)

    def with_behind(self, behind):
        """The item with something else behind it."""
        return Item(self.letter, self.inside, behind, self.seen)


def shape_of(item):
    """The shape that an item is, with all inside of it and behind it."""
    return () if item is None else item.shape


class Note:
    """What one standing question or sentence knows of an item."""

    def __init__(self, serial, state):
        self.serial = serial
        self.state = state
        # The welcome states for which answers were found, and these: a tuple of
        # whether the item is one, and of those inside of it and behind it. It is
        # empty if there are none.
        self.welcome = None
        self.found = ()


class Standing:
    """A question or sentence that stands under a name; each has a serial number of its own."""

    def __init__(self, name, serial, machine):
        self.name = name
        self.serial = serial
        self.good = machine[3]
        self.is_question = machine[1] == 1
        # A sentence pays no attention to a mark.
        self.seeker = Seeker(machine if self.is_question else spread(machine, 0))

    def note_of(self, item):
        """What is known of an item, or None. What one that had the name before knew is forgotten."""
        note = item.notes.get(self.name)
        return note if note is not None and note.serial == self.serial else None

    def state_of(self, item):
        """The state that belongs to an item with all inside of it and behind it, if it is known."""
        return 0 if item is None else self.note_of(item).state

    def answers_of(self, item, welcome):
        """The answers for an item and these welcome states, as a note has them, if they are known."""
        return () if item is None or not welcome else self.note_of(item).found

    def learn_states(self, top):
        """Find the states that are not known yet; returns the list of the items that were looked at."""
        looked = []
        waiting = [(top, False)]
        while waiting:
            item, is_ready = waiting.pop()
            if is_ready:
                state = self.seeker.state_above(_sign(item), self._states_below(item))
                item.notes[self.name] = Note(self.serial, state)
            elif item is not None and self.note_of(item) is None:
                looked.append(item)
                waiting.extend([(item, True), (item.inside, False), (item.behind, False)])
        return looked

    def learn_answers(self, top):
        """Find the answers that are not known yet; returns the list of the items that were looked at."""
        looked = []
        waiting = [(top, self.seeker.start, False)]
        while waiting:
            item, welcome, is_ready = waiting.pop()
            if is_ready:
                self._write_answers(item, welcome)
            # Where nothing is welcome, there are no answers.
            elif item is not None and welcome and self.note_of(item).welcome != welcome:
                looked.append(item)
                inside, behind = self._welcome_below(item, welcome)
                waiting.extend([(item, welcome, True), (item.inside, inside, False), (item.behind, behind, False)])
        return looked

    def _states_below(self, item):
        return self.state_of(item.inside), self.state_of(item.behind)

    def _welcome_below(self, item, welcome):
        """The welcome states of what is inside of an item and of what is behind it."""
        sign, states = _sign(item), self._states_below(item)
        return [self.seeker.welcome_below(sign, states, welcome, k) for k in (0, 1)]

    def _write_answers(self, item, welcome):
        """Keep the answers for an item, when those inside of it and behind it are known."""
        own = self.seeker.is_found(_sign(item), self._states_below(item), welcome)
        inside, behind = self._welcome_below(item, welcome)
        found = (own, self.answers_of(item.inside, inside), self.answers_of(item.behind, behind))
        note = self.note_of(item)
        note.welcome = welcome
        note.found = () if found == (False, (), ()) else found


def _sign(item):
    return item.letter, ()


def places_of(found):
    """The ascending list of the places of the answers that a note has."""
    places = []
    waiting = [((), 0, found)]
    while waiting:
        around, number, now = waiting.pop()
        if now:
            own, inside, behind = now
            place = around + (number,)
            if own:
                places.append(place)
            waiting.extend([(around, number + 1, behind), (place, 0, inside)])
    return places
