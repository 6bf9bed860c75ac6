"""Points 10 and 11: signs, machines, states, acceptance and marks."""

import random
import unittest

from helper import (
    KINDS, NO_KINDS, counting, make_machine, plain_mark, plain_paths, plain_shapes, plain_signs, plain_state,
    random_machine, small_marked, word,
)
from treesays.errors import InvalidKind
from treesays.machines import accepts, is_machine, mark, signs, state_of

AB = (1, ("a", "b"))
TREES = (2, ("a", "b"))


def even_marks(kind):
    """Two tracks; the state tells whether the first track has an even number of marks, at elements
    with an a, and is 2 if an element is marked on the second one."""
    def above(sign, states):
        label, marks = sign
        if marks[1] or 2 in states:
            return 2
        return (sum(states) + (marks[0] and label == "a")) % 2

    return make_machine(kind, 2, 3, above, [0])


def spoilt(machine, **fields):
    parts = dict(zip(("kind", "tracks", "table", "good"), machine))
    parts.update(fields)
    return tuple(parts[name] for name in ("kind", "tracks", "table", "good"))


def with_entry(machine, row, places, value):
    """The machine with another value at a place of a row of the table."""
    def changed(part, way):
        if not way:
            return value
        return part[:way[0]] + (changed(part[way[0]], way[1:]),) + part[way[0] + 1:]

    return spoilt(machine, table=changed(machine[2], (row,) + places))


class SignsTest(unittest.TestCase):
    def test_by_hand(self):
        self.assertEqual(signs((1, ("a",)), 0), [("a", ())])
        self.assertEqual(signs((2, ("c", "x")), 0), [("c", ()), ("x", ())])
        self.assertEqual(signs((1, ("b",)), 1), [("b", (0,)), ("b", (1,))])
        self.assertEqual(signs((2, ("a", "b")), 2), [
            ("a", (0, 0)), ("a", (0, 1)), ("a", (1, 0)), ("a", (1, 1)),
            ("b", (0, 0)), ("b", (0, 1)), ("b", (1, 0)), ("b", (1, 1)),
        ])

    def test_all_and_ascending(self):
        for kind in KINDS:
            for tracks in range(8):
                found = signs(kind, tracks)
                self.assertEqual(found, plain_signs(kind, tracks))
                self.assertEqual(len(found), len(kind[1]) * 2 ** tracks)

    def test_a_new_list_at_each_call(self):
        signs((1, ("a",)), 0).append("more")
        self.assertEqual(signs((1, ("a",)), 0), [("a", ())])

    def test_wrong_kinds(self):
        for kind in NO_KINDS:
            with self.subTest(kind):
                self.assertRaises(InvalidKind, signs, kind, 1)


class IsMachineTest(unittest.TestCase):
    def test_machines_are_machines(self):
        numbers = random.Random(1)
        for kind in KINDS:
            for tracks in range(3):
                for count in (1, 2, 5):
                    self.assertIs(is_machine(random_machine(numbers, kind, tracks, count)), True)

    def test_machines_with_many_states_or_tracks(self):
        for kind in [(1, ("a", "b", "c")), (2, ("a",))]:
            self.assertIs(is_machine(counting(kind, 300)), True)
            self.assertIs(is_machine(counting(kind, 299)), True)
            self.assertIs(is_machine(counting(kind, 301)), False)
            self.assertIs(is_machine(counting(kind, 400)), False)
        for kind in KINDS:
            self.assertIs(is_machine(random_machine(random.Random(2), kind, 6, 2)), True)
            self.assertIs(is_machine(random_machine(random.Random(2), kind, 7, 2)), False)

    def test_wrong_numbers_of_rows(self):
        for kind in (AB, TREES):
            for tracks in (0, 1, 2):
                machine = random_machine(random.Random(3), kind, tracks, 3)
                table = machine[2]
                for rows in [table[1:], table[:-1], table + table[:1], table + table, (), table + ((),)]:
                    self.assertIs(is_machine(spoilt(machine, table=rows)), False)

    def test_wrong_tracks(self):
        for kind in (AB, TREES):
            machine = random_machine(random.Random(4), kind, 1, 3)
            for tracks in (-1, 0, 2, 6, 7, -2, 100):
                self.assertIs(is_machine(spoilt(machine, tracks=tracks)), False)
            machine = random_machine(random.Random(4), kind, 0, 3)
            for tracks in (-1, -3, 1, 7):
                self.assertIs(is_machine(spoilt(machine, tracks=tracks)), False)

    def test_wrong_kinds(self):
        for kind in (AB, TREES):
            machine = random_machine(random.Random(5), kind, 1, 3)
            for other in NO_KINDS:
                with self.subTest(other):
                    self.assertIs(is_machine(spoilt(machine, kind=other)), False)
            self.assertIs(is_machine(spoilt(machine, kind=(3 - kind[0], kind[1]))), False)
            self.assertIs(is_machine(spoilt(machine, kind=(kind[0], ("a",)))), False)
            self.assertIs(is_machine(spoilt(machine, kind=(kind[0], ("a", "b", "c")))), False)
            self.assertIs(is_machine(spoilt(machine, kind=(kind[0], ("c", "d")))), True)

    def test_wrong_numbers_of_rows_for_each_bad_kind(self):
        one = counting((1, ("a",)), 2)
        self.assertIs(is_machine(spoilt(one, kind=(1, ()), table=())), False)
        four = spoilt(one, kind=(1, ("a", "b", "c", "d")), table=one[2] * 4)
        self.assertIs(is_machine(four), False)
        self.assertIs(is_machine(spoilt(one, kind=(1, ("b", "a")), table=one[2] * 2)), False)

    def test_wrong_good(self):
        for kind in (AB, TREES):
            machine = random_machine(random.Random(6), kind, 1, 3)
            good = machine[3]
            for truths in [good[1:], good + (True,), good + good, (), (True,), (False, False), good[:2] + (1,),
                           good[:2] + (0,), good[:2] + ((),)]:
                self.assertIs(is_machine(spoilt(machine, good=truths)), False)

    def test_no_states_at_all(self):
        self.assertIs(is_machine(((1, ("a",)), 0, ((),), ())), False)
        self.assertIs(is_machine(((2, ("a",)), 0, ((),), ())), False)

    def test_entries_that_are_no_states(self):
        for kind, depth in ((AB, 1), (TREES, 2)):
            machine = random_machine(random.Random(7), kind, 1, 3)
            self.assertIs(is_machine(machine), True)
            for row in range(4):
                for place in range(3):
                    for places in ((place,), (place, 1), (1, place)):
                        if len(places) == depth:
                            for state in (3, -1, 300, -3, 10 ** 20, (), (0,), (0, 0, 0), True, False):
                                self.assertIs(is_machine(with_entry(machine, row, places, state)), False)
                            self.assertIs(is_machine(with_entry(machine, row, places, 2)), True)

    def test_rows_of_a_wrong_form(self):
        for kind in (AB, TREES):
            machine = random_machine(random.Random(8), kind, 0, 3)
            row = machine[2][0]
            for other in [row[1:], row + row[:1], (), 0, 2, (row,), row + ((),)]:
                self.assertIs(is_machine(spoilt(machine, table=(other, machine[2][1]))), False)
                self.assertIs(is_machine(spoilt(machine, table=(machine[2][0], other))), False)
        machine = random_machine(random.Random(8), TREES, 0, 3)
        for line in [(), (0,), (0, 0), (0, 0, 0, 0), 1]:
            for place in range(3):
                self.assertIs(is_machine(with_entry(machine, 1, (place,), line)), False)

    def test_tuples_of_another_length(self):
        machine = counting(AB, 2)
        for value in [(), machine[:3], machine + ((),), machine[1:], (machine,)]:
            self.assertIs(is_machine(value), False)


class StatesTest(unittest.TestCase):
    def test_the_empty_shape_has_state_0(self):
        for kind in KINDS:
            for good in ([], [0], [1]):
                machine = counting(kind, 3, good)
                self.assertEqual(state_of(machine, ()), 0)
                self.assertIs(accepts(machine, ()), good == [0])

    def test_words_by_hand(self):
        machine = (AB, 0, ((1, 2, 2), (0, 0, 1)), (False, True, False))
        for letters, state in [("", 0), ("a", 1), ("b", 0), ("ba", 0), ("aba", 1), ("aa", 2), ("baa", 1), ("aab", 2),
                               ("bbaa", 0), ("abbb", 1)]:
            marked = mark(word(letters), [])
            self.assertEqual(state_of(machine, marked), state)
            self.assertIs(accepts(machine, marked), state == 1)

    def test_trees_by_hand(self):
        # the state is 1 above a b, and otherwise tells whether the first child has the state 1
        machine = (TREES, 0, (((0, 0), (1, 1)), ((1, 1), (1, 1))), (True, False))
        leaf = ("b", (), ())
        for tree, state in [(("a", (), ()), 0), (leaf, 1), (("a", leaf, ()), 1), (("a", (), leaf), 0),
                            (("a", ("a", leaf, ()), ()), 1), (("a", ("a", (), leaf), leaf), 0)]:
            marked = mark(tree, [])
            self.assertEqual(state_of(machine, marked), state)
            self.assertIs(accepts(machine, marked), state == 0)

    def test_marks_by_hand(self):
        for kind in (AB, TREES):
            machine = even_marks(kind)
            below = ((),) * (kind[0] - 1)
            shape = ("a", ("b", ("a", ()) + below) + below) + below
            for first, second, state in [
                ((), (), 0), (((),), (), 1), (((0,),), (), 0), (((0, 0),), (), 1), (((), (0, 0)), (), 0),
                (((), (0,), (0, 0)), (), 0), ((), ((0,),), 2), (((),), ((0, 0),), 2),
            ]:
                marked = mark(shape, [first, second])
                self.assertEqual(state_of(machine, marked), state)
                self.assertIs(accepts(machine, marked), state == 0)

    def test_all_small_marked_shapes(self):
        numbers = random.Random(9)
        for kind in KINDS:
            for tracks in (0, 1, 2):
                machine = random_machine(numbers, kind, tracks, 4)
                for marked in small_marked(kind, tracks, 3 if tracks == 0 else 2):
                    state = plain_state(machine, marked)
                    self.assertEqual(state_of(machine, marked), state)
                    self.assertIs(accepts(machine, marked), machine[3][state])

    def test_many_states_and_tracks(self):
        machine = random_machine(random.Random(10), (1, ("a", "b", "c")), 6, 300)
        for marked in small_marked((1, ("a", "b", "c")), 6, 2)[::97]:
            self.assertEqual(state_of(machine, marked), plain_state(machine, marked))
        machine = counting((2, ("a",)), 300)
        shape = ()
        for number in range(1, 700):
            shape = (("a", ()), shape, ()) if number % 3 else (("a", ()), (), shape)
            self.assertEqual(state_of(machine, shape), number % 300)

    def test_deep_shapes(self):
        machine = counting((1, ("a", "b")), 7)
        self.assertEqual(state_of(machine, mark(word("ab" * 1000), [])), 2000 % 7)
        self.assertIs(accepts(machine, mark(word("ab" * 1001), [])), True)


class MarkTest(unittest.TestCase):
    def test_no_track(self):
        self.assertEqual(mark(word("ab"), []), (("a", ()), (("b", ()), ())))
        self.assertEqual(mark(("a", (), ("b", (), ())), []), (("a", ()), (), (("b", ()), (), ())))
        self.assertEqual(mark((), []), ())

    def test_one_track(self):
        self.assertEqual(mark(word("ab"), [()]), (("a", (0,)), (("b", (0,)), ())))
        self.assertEqual(mark(word("ab"), [((0,),)]), (("a", (0,)), (("b", (1,)), ())))
        self.assertEqual(mark(word("ab"), [((), (0,))]), (("a", (1,)), (("b", (1,)), ())))
        self.assertEqual(mark(("a", ("c", (), ()), ("b", (), ())), [((1,),)]),
                         (("a", (0,)), (("c", (0,)), (), ()), (("b", (1,)), (), ())))
        self.assertEqual(mark((), [()]), ())

    def test_several_tracks(self):
        self.assertEqual(mark(word("ab"), [((),), (), ((), (0,))]), (("a", (1, 0, 1)), (("b", (0, 0, 1)), ())))
        self.assertEqual(mark(("a", ("c", (), ()), ("b", (), ())), [((0,), (1,)), ((),), ((1,),)]),
                         (("a", (0, 1, 0)), (("c", (1, 0, 0)), (), ()), (("b", (1, 0, 1)), (), ())))

    def test_all_small_shapes(self):
        numbers = random.Random(11)
        for kind in KINDS:
            for count in range(4):
                for shape in plain_shapes(*kind, count):
                    known = sorted(plain_paths(shape))
                    for tracks in range(4):
                        sets = [tuple(path for path in known if numbers.random() < 0.5) for _ in range(tracks)]
                        self.assertEqual(mark(shape, sets), plain_mark(shape, sets))

    def test_the_list_is_not_changed(self):
        sets = [((),), ((), (0,))]
        mark(word("ab"), sets)
        self.assertEqual(sets, [((),), ((), (0,))])

    def test_marked_shapes_fit_the_signs(self):
        shape = mark(word("aab"), [((), (0, 0)), ((0,),)])
        known = signs(AB, 2)
        while shape:
            self.assertIn(shape[0], known)
            shape = shape[1]


if __name__ == "__main__":
    unittest.main()
