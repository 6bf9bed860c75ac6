"""denied, joined, hidden and spread of treesays/machines.py."""

import itertools
import random
import unittest

from helper import (
    KINDS, counting, hides, inflated, make_machine, met_together, plain_least, plain_mark, plain_paths, plain_shapes,
    plain_signs, random_machine, same_accepted, small_marked, word,
)
from treesays.errors import TooLarge
from treesays.machines import accepts, denied, hidden, is_machine, joined, least, mark, spread

A = (1, ("a",))
AB = (1, ("a", "b"))
SIZES = [(kind, tracks) for kind in KINDS for tracks in (0, 1, 2)]


def nothing(kind, tracks):
    return make_machine(kind, tracks, 1, lambda sign, states: 0, [])


def everything(kind, tracks):
    return make_machine(kind, tracks, 1, lambda sign, states: 0, [0])


def one_marked(kind, tracks, track, label):
    """Exactly one element is marked on a track, and it has a label."""
    def above(sign, states):
        number = sum(states) + sign[1][track]
        return 2 if number == 1 and sign[1][track] and sign[0] != label else min(number, 2)

    return make_machine(kind, tracks, 3, above, [1])


def of_first_child(kind, tracks, count, step, good):
    """A machine whose states depend on the first child alone, also for trees."""
    return make_machine(kind, tracks, count, lambda sign, states: step(sign, states[0]), good)


def two_wheels(kind, one, other):
    """The lowest element, or the one that has no first child, chooses by its mark one of two wheels of
    states, which turn at each element further up; the last state of each wheel is good."""
    def step(sign, state):
        if state == 0:
            return 1 + one if sign[1][0] else 1
        if state <= one:
            return 1 + state % one
        return 1 + one + (state - one) % other

    return of_first_child(kind, 1, 1 + one + other, step, [one, one + other])


def far_from_the_top(kind, distance):
    """An element is marked, and has an a, `distance` steps below the top, on the way of first children."""
    def step(sign, state):
        if state == 0 and sign[1][0]:
            return 1 if sign[0] == "a" else distance + 2
        return min(state + 1, distance + 2) if state else 0

    return of_first_child(kind, 1, distance + 3, step, [distance + 1])


def mark_sets(shape, tracks):
    known = sorted(plain_paths(shape))
    subsets = [some for length in range(len(known) + 1) for some in itertools.combinations(known, length)]
    return itertools.product(subsets, repeat=tracks)


class Case(unittest.TestCase):
    def check_least(self, machine, kind, tracks):
        self.assertEqual(machine[:2], (kind, tracks))
        self.assertTrue(is_machine(machine))
        self.assertEqual(machine, plain_least(machine))

    def pairs(self, seed, most):
        numbers = random.Random(seed)
        for kind, tracks in SIZES:
            for count in range(1, most + 1):
                yield (random_machine(numbers, kind, tracks, count),
                       random_machine(numbers, kind, tracks, numbers.randrange(1, most + 1)))


class DeniedTest(Case):
    def test_by_hand(self):
        for kind, tracks in SIZES:
            self.assertEqual(denied(nothing(kind, tracks)), everything(kind, tracks))
            self.assertEqual(denied(everything(kind, tracks)), nothing(kind, tracks))
        self.assertEqual(denied(counting(A, 3)), counting(A, 3, [1, 2]))

    def test_random_machines(self):
        for machine, _ in self.pairs(30, 6):
            found = denied(machine)
            self.check_least(found, *machine[:2])
            for one, other in met_together([machine, found], [(row, row) for row in range(len(machine[2]))]):
                self.assertIs(found[3][other], not machine[3][one])
            self.assertEqual(denied(found), least(machine))

    def test_small_marked_shapes(self):
        for machine, _ in self.pairs(31, 3):
            found = denied(machine)
            for marked in small_marked(machine[0], machine[1], 2):
                self.assertIs(accepts(found, marked), not accepts(machine, marked))

    def test_machines_that_are_not_least(self):
        numbers = random.Random(32)
        for kind, tracks in SIZES:
            machine = random_machine(numbers, kind, tracks, 3)
            self.assertEqual(denied(inflated(numbers, machine, 3)), denied(machine))

    def test_many_states(self):
        for kind in (AB, (2, ("a",))):
            self.assertEqual(denied(counting(kind, 300)), counting(kind, 300, range(1, 300)))
            self.assertRaises(TooLarge, denied, counting(kind, 301))


class JoinedTest(Case):
    def test_by_hand(self):
        for kind in KINDS:
            two, three = counting(kind, 2), counting(kind, 3)
            self.assertEqual(joined(two, three, True), counting(kind, 6))
            self.assertEqual(joined(two, three, False), counting(kind, 6, [0, 2, 3, 4]))
            self.assertEqual(joined(two, counting(kind, 4), True), counting(kind, 4))
            self.assertEqual(joined(two, counting(kind, 4), False), two)
            self.assertEqual(joined(two, two, True), two)
            self.assertEqual(joined(two, denied(two), True), nothing(kind, 0))
            self.assertEqual(joined(two, denied(two), False), everything(kind, 0))

    def test_with_nothing_and_everything(self):
        for machine, _ in self.pairs(33, 3):
            known = least(machine)
            for some, both, result in [(nothing, True, nothing(*machine[:2])), (nothing, False, known),
                                       (everything, True, known), (everything, False, everything(*machine[:2]))]:
                self.assertEqual(joined(machine, some(*machine[:2]), both), result)
                self.assertEqual(joined(some(*machine[:2]), machine, both), result)

    def test_random_machines(self):
        for first, second in self.pairs(34, 5):
            rows = [(row, row, row) for row in range(len(first[2]))]
            for both in (True, False):
                found = joined(first, second, both)
                self.check_least(found, *first[:2])
                for one, other, state in met_together([first, second, found], rows):
                    truths = (first[3][one], second[3][other])
                    self.assertIs(found[3][state], all(truths) if both else any(truths))

    def test_small_marked_shapes(self):
        for first, second in self.pairs(35, 3):
            with_both, with_one = joined(first, second, True), joined(first, second, False)
            for marked in small_marked(first[0], first[1], 2):
                truths = (accepts(first, marked), accepts(second, marked))
                self.assertIs(accepts(with_both, marked), all(truths))
                self.assertIs(accepts(with_one, marked), any(truths))

    def test_machines_that_are_not_least(self):
        numbers = random.Random(36)
        for kind, tracks in SIZES:
            first = random_machine(numbers, kind, tracks, 3)
            second = random_machine(numbers, kind, tracks, 2)
            for both in (True, False):
                found = joined(inflated(numbers, first, 2), inflated(numbers, second, 3), both)
                self.assertEqual(found, joined(first, second, both))

    def test_six_tracks(self):
        numbers = random.Random(37)
        kind = (1, ("a", "b", "c"))
        first, second = [random_machine(numbers, kind, 6, 4) for _ in range(2)]
        rows = [(row, row, row) for row in range(192)]
        found = joined(first, second, True)
        self.check_least(found, kind, 6)
        for one, other, state in met_together([first, second, found], rows):
            self.assertIs(found[3][state], first[3][one] and second[3][other])

    def test_as_many_states_as_a_machine_may_have(self):
        for kind in (A, (2, ("a",))):
            self.assertEqual(joined(counting(kind, 12), counting(kind, 25), True), counting(kind, 300))
            several = [state for state in range(300) if state % 12 == 0 or state % 25 == 0]
            self.assertEqual(joined(counting(kind, 25), counting(kind, 12), False), counting(kind, 300, several))
            self.assertEqual(joined(counting(kind, 300), counting(kind, 150), True), counting(kind, 300))
            self.assertEqual(joined(counting(kind, 300), counting(kind, 150), False), counting(kind, 150))

    def test_too_many_states(self):
        for kind in (A, (2, ("a",))):
            for one, other in [(7, 43), (17, 18), (300, 299), (16, 19)]:
                for both in (True, False):
                    self.assertRaises(TooLarge, joined, counting(kind, one), counting(kind, other), both)


class HiddenTest(Case):
    def test_by_hand(self):
        for kind in KINDS:
            label = kind[1][0]
            found = hidden(one_marked(kind, 1, 0, label), 0)

            def above(sign, states):
                return int(any(states) or sign[0] == label)

            # a tree or word in which the label is
            self.assertEqual(found, plain_least(make_machine(kind, 0, 2, above, [1])))
            self.assertEqual(hidden(nothing(kind, 1), 0), nothing(kind, 0))
            self.assertEqual(hidden(everything(kind, 1), 0), everything(kind, 0))

    def test_each_track_by_hand(self):
        for kind in ((1, ("a", "b")), (2, ("a", "b"))):
            first, second = one_marked(kind, 2, 0, "a"), one_marked(kind, 2, 1, "b")
            both = joined(first, second, True)
            for marked in small_marked(kind, 1, 2):
                text = repr(marked)
                self.assertIs(accepts(hidden(both, 1), marked), accepts(one_marked(kind, 1, 0, "a"), marked)
                              and "'b'" in text)
                self.assertIs(accepts(hidden(both, 0), marked), accepts(one_marked(kind, 1, 0, "b"), marked)
                              and "'a'" in text)

    def test_random_machines(self):
        numbers = random.Random(40)
        for kind in KINDS:
            for tracks in (1, 2, 3):
                for count in (1, 2, 3, 4):
                    machine = random_machine(numbers, kind, tracks, count)
                    for track in range(tracks):
                        found = hidden(machine, track)
                        self.check_least(found, kind, tracks - 1)
                        self.assertTrue(hides(machine, track, found))

    def test_small_shapes_with_all_marks(self):
        numbers = random.Random(41)
        for kind in KINDS:
            for tracks in (1, 2):
                machine = random_machine(numbers, kind, tracks, 4)
                for track in range(tracks):
                    found = hidden(machine, track)
                    for size in range(3):
                        for shape in plain_shapes(*kind, size):
                            self.check_shape(machine, track, found, shape)

    def check_shape(self, machine, track, found, shape):
        for sets in mark_sets(shape, machine[1] - 1):
            known = any(
                accepts(machine, plain_mark(shape, sets[:track] + more + sets[track:]))
                for more in mark_sets(shape, 1)
            )
            self.assertIs(accepts(found, mark(shape, list(sets))), known)

    def test_machines_that_are_not_least(self):
        numbers = random.Random(42)
        for kind in KINDS:
            machine = random_machine(numbers, kind, 2, 3)
            for track in (0, 1):
                self.assertEqual(hidden(inflated(numbers, machine, 2), track), hidden(machine, track))

    def test_six_tracks(self):
        numbers = random.Random(43)
        for kind, count in (((1, ("a", "b", "c")), 4), ((2, ("a",)), 3)):
            machine = random_machine(numbers, kind, 6, count)
            for track in range(6):
                found = hidden(machine, track)
                self.check_least(found, kind, 5)
                self.assertTrue(hides(machine, track, found))

    def test_many_sets(self):
        for kind in (AB, (2, ("a", "b"))):
            found = hidden(far_from_the_top(kind, 6), 0)
            self.check_least(found, kind, 0)
            self.assertEqual(len(found[3]), 128)
        found = hidden(far_from_the_top(AB, 7), 0)
        self.assertEqual(len(found[3]), 256)
        for letters in itertools.product("ab", repeat=9):
            self.assertIs(accepts(found, mark(word(letters), [])), letters[7] == "a")

    def test_as_many_states_as_a_machine_may_have(self):
        for kind in (A, (2, ("a",))):
            found = hidden(two_wheels(kind, 13, 23), 0)
            self.assertEqual(len(found[3]), 300)
            self.assertTrue(hides(two_wheels(kind, 13, 23), 0, found))

    def test_too_many_states(self):
        for kind in (AB, (2, ("a", "b"))):
            self.assertRaises(TooLarge, hidden, far_from_the_top(kind, 8), 0)
            self.assertRaises(TooLarge, hidden, far_from_the_top(kind, 12), 0)
            self.assertRaises(TooLarge, hidden, two_wheels(kind, 12, 25), 0)
            self.assertRaises(TooLarge, hidden, two_wheels(kind, 15, 23), 0)

    def test_large_sets(self):
        # hiding the marks leaves nothing of their number, but the sets on the way are large
        kind = (2, ("a",))
        machine = make_machine(kind, 1, 120, lambda sign, states: (sum(states) + sign[1][0]) % 120, [60])
        found = hidden(machine, 0)
        self.assertEqual(found, make_machine(kind, 0, 61, lambda sign, states: min(sum(states) + 1, 60), [60]))


class SpreadTest(Case):
    def test_by_hand(self):
        machine = one_marked(AB, 1, 0, "b")
        table = machine[2]
        self.assertEqual(spread(least(machine), 0)[2], least(machine)[2][:2] * 2 + least(machine)[2][2:] * 2)
        self.assertEqual(len(table), 4)
        for kind in KINDS:
            self.assertEqual(spread(everything(kind, 0), 0), everything(kind, 1))
            self.assertEqual(spread(nothing(kind, 2), 1), nothing(kind, 3))
            self.assertEqual(spread(one_marked(kind, 1, 0, kind[1][0]), 0), least(one_marked(kind, 2, 1, kind[1][0])))
            self.assertEqual(spread(one_marked(kind, 1, 0, kind[1][0]), 1), least(one_marked(kind, 2, 0, kind[1][0])))

    def test_random_machines(self):
        numbers = random.Random(50)
        for kind, tracks in SIZES:
            signs = plain_signs(kind, tracks)
            for count in (1, 2, 4):
                machine = random_machine(numbers, kind, tracks, count)
                for track in range(tracks + 1):
                    found = spread(machine, track)
                    self.check_least(found, kind, tracks + 1)
                    rows = [(signs.index((label, marks[:track] + marks[track + 1:])), row)
                            for row, (label, marks) in enumerate(plain_signs(kind, tracks + 1))]
                    for one, other in met_together([machine, found], rows):
                        self.assertIs(machine[3][one], found[3][other])

    def test_small_shapes_with_all_marks(self):
        numbers = random.Random(51)
        for kind in ((1, ("a", "b")), (2, ("a", "b"))):
            for tracks in (0, 1, 2):
                machine = random_machine(numbers, kind, tracks, 4)
                for shape in plain_shapes(*kind, 2):
                    for sets in mark_sets(shape, tracks + 1):
                        for track in range(tracks + 1):
                            known = accepts(machine, plain_mark(shape, sets[:track] + sets[track + 1:]))
                            self.assertIs(accepts(spread(machine, track), mark(shape, list(sets))), known)

    def test_there_and_back(self):
        numbers = random.Random(52)
        for kind, tracks in SIZES:
            machine = random_machine(numbers, kind, tracks, 4)
            for track in range(tracks + 1):
                self.assertEqual(hidden(spread(machine, track), track), least(machine))

    def test_machines_that_are_not_least(self):
        numbers = random.Random(53)
        for kind, tracks in SIZES:
            machine = random_machine(numbers, kind, tracks, 3)
            for track in range(tracks + 1):
                self.assertEqual(spread(inflated(numbers, machine, 3), track), spread(machine, track))

    def test_to_six_tracks(self):
        machine = random_machine(random.Random(54), (1, ("a", "b", "c")), 5, 6)
        for track in range(6):
            found = spread(machine, track)
            self.check_least(found, machine[0], 6)
            self.assertEqual(hidden(found, track), least(machine))

    def test_many_states(self):
        for kind in (A, (2, ("a",))):
            machine = counting(kind, 300)
            self.assertEqual(spread(machine, 0), (kind, 1, machine[2] * 2, machine[3]))
            self.assertRaises(TooLarge, spread, counting(kind, 301), 0)


class SameAcceptedTest(unittest.TestCase):
    def test_the_helper_tells_machines_apart(self):
        self.assertTrue(same_accepted(counting(AB, 2), counting(AB, 4, [0, 2])))
        self.assertFalse(same_accepted(counting(AB, 2), counting(AB, 4)))
        self.assertTrue(hides(everything(AB, 1), 0, everything(AB, 0)))
        self.assertFalse(hides(one_marked(AB, 1, 0, "a"), 0, everything(AB, 0)))


if __name__ == "__main__":
    unittest.main()
