"""How an expression tells a word letter by letter."""

from treesays.bits import numbers_in
from treesays.parts import all_parts, inner


class Trail:
    """The letters that stand in an expression, each with a number of its own, and which may come next.

    Sets of these numbers are written as integers, with a bit for each.
    """

    def __init__(self, expression):
        self.letters = {}
        self.following = []
        # What is known of a part: whether it tells the empty word, and with
        # which of its letters the words that it tells may begin and end.
        waiting = []
        for now in reversed(all_parts(expression)):
            inside = [waiting.pop() for _ in inner(now)]
            waiting.append(self._known_above(now, inside))
        self.is_empty_told, self.first, self.last = waiting[0]

    def _known_above(self, now, inside):
        """What is known of a part, by what is known of those directly inside of it."""
        word = now[0]
        if word == "letter":
            bit = 1 << len(self.following)
            self.following.append(0)
            self.letters[now[1]] = self.letters.get(now[1], 0) | bit
            return False, bit, bit
        if not inside:
            return word == "empty", 0, 0
        is_empty, first, last = inside[0]
        other_is_empty, other_first, other_last = inside[-1]
        if word == "many":
            self._lead(last, first)
            return True, first, last
        if word == "either":
            return is_empty or other_is_empty, first | other_first, last | other_last
        self._lead(last, other_first)
        first |= other_first if is_empty else 0
        return is_empty and other_is_empty, first, other_last | (last if other_is_empty else 0)

    def _lead(self, sources, goals):
        """Let each of some letters be followed by any of others."""
        for number in numbers_in(sources):
            self.following[number] |= goals

    def tells(self, word):
        """Whether a word, a list of labels, is told."""
        if not word:
            return self.is_empty_told
        coming, here = self.first, 0
        for label in word:
            here = coming & self.letters.get(label, 0)
            coming = 0
            for number in numbers_in(here):
                coming |= self.following[number]
        return here & self.last != 0
