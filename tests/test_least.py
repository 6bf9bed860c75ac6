"""Point 12: least machines."""

import itertools
import random
import unittest

from helper import (
    KINDS, counting, entry, found_in_order, inflated, machine_order, make_machine, plain_least, random_machine,
    same_accepted, small_marked,
)
from treesays.machines import accepts, is_machine, least

A = (1, ("a",))
AB = (1, ("a", "b"))


class HelperTest(unittest.TestCase):
    def test_the_order_is_that_of_the_document(self):
        """The helper goes through combinations quickly; here they are taken word by word."""
        numbers = random.Random(20)
        for kind in KINDS:
            machine = random_machine(numbers, kind, 1, 12)
            found = [0]
            n = 0
            while n < len(found):
                for row in range(len(machine[2])):
                    for some in sorted(itertools.product(range(n + 1), repeat=kind[0])):
                        state = entry(machine, row, [found[k] for k in some])
                        if max(some) == n and state not in found:
                            found.append(state)
                n += 1
            self.assertEqual(machine_order(machine), found)

    def test_found_in_order(self):
        self.assertEqual(found_in_order(1, 2, 0, lambda row, some: (some[0] + 3 - row) % 5), [0, 3, 2, 1, 4])


class LeastByHandTest(unittest.TestCase):
    def test_states_without_marked_shapes_are_left_out(self):
        machine = (A, 0, ((1, 0, 2, 0),), (True, False, True, False))
        self.assertEqual(least(machine), (A, 0, ((1, 0),), (True, False)))
        machine = ((2, ("a",)), 0, (((1, 1, 2), (0, 0, 2), (2, 2, 1)),), (True, False, True))
        self.assertEqual(least(machine), ((2, ("a",)), 0, (((1, 1), (0, 0)),), (True, False)))

    def test_alike_states_become_one(self):
        machine = (A, 0, ((1, 2, 3, 0),), (True, False, True, False))
        self.assertEqual(least(machine), (A, 0, ((1, 0),), (True, False)))
        for good in (True, False):
            for kind in KINDS:
                all_the_same = least(counting(kind, 5, range(5) if good else []))
                self.assertEqual(all_the_same[3], (good,))
                self.assertEqual(all_the_same, make_machine(kind, 0, 1, lambda sign, states: 0, [0] if good else []))

    def test_good_ones_and_others_are_never_alike(self):
        machine = (A, 0, ((1, 1),), (True, False))
        self.assertEqual(least(machine), machine)

    def test_states_alike_only_as_one_of_the_children(self):
        trees = (2, ("a",))
        # 1 and 2 do the same as second children, not as first ones; and the other way round
        machine = (trees, 0, (((1, 2, 2), (2, 2, 2), (0, 0, 0)),), (True, False, False))
        self.assertEqual(len(least(machine)[3]), 3)
        machine = (trees, 0, (((1, 2, 0), (2, 2, 0), (2, 2, 0)),), (True, False, False))
        self.assertEqual(len(least(machine)[3]), 3)
        machine = (trees, 0, (((1, 2, 2), (2, 2, 2), (2, 2, 2)),), (True, False, False))
        self.assertEqual(len(least(machine)[3]), 2)

    def test_words_are_numbered_row_by_row(self):
        # 2 is found below a, 3 below b, then 1 below a second b at 2
        machine = (AB, 0, ((2, 1, 3, 3), (3, 0, 1, 2)), (True, False, False, True))
        order = [0, 2, 3, 1]
        numbers = {state: number for number, state in enumerate(order)}
        table = tuple(tuple(numbers[row[state]] for state in order) for row in machine[2])
        self.assertEqual(least(machine), (AB, 0, table, (True, False, True, False)))

    def test_trees_are_numbered_by_the_greatest_number_of_the_children(self):
        trees = (2, ("a",))
        # above (0, 0) stands 3, above (0, 3) stands 1, above (3, 0) stands 4, above (3, 3) stands 2
        line = {(0, 0): 3, (0, 3): 1, (3, 0): 4, (3, 3): 2, (0, 1): 0, (1, 0): 4, (1, 1): 3, (1, 4): 1, (2, 4): 0}
        machine = make_machine(trees, 0, 5, lambda sign, states: line.get(states, 4), [1, 2])
        found = least(machine)
        self.assertEqual(len(found[3]), 5)
        self.assertEqual(found[3], (False, False, True, False, True))
        self.assertEqual(found[2][0][0][:2], (1, 2))
        self.assertEqual(found[2][0][1][:2], (3, 4))

    def test_trees_are_numbered_row_by_row_for_each_number(self):
        trees = (2, ("a", "b"))
        known = {("a", (0, 0)): 0, ("b", (0, 0)): 2, ("a", (0, 2)): 0, ("a", (2, 0)): 0, ("a", (2, 2)): 3,
                 ("b", (0, 2)): 1, ("b", (1, 1)): 3, ("a", (3, 3)): 2, ("b", (3, 1)): 1}
        machine = make_machine(trees, 0, 4, lambda sign, states: known.get((sign[0], states), 0), [1])
        found = least(machine)
        self.assertEqual(found[3], (False, False, False, True))
        self.assertEqual((found[2][0][1][1], found[2][1][0][1]), (2, 3))


class LeastOfManyTest(unittest.TestCase):
    def check(self, machine):
        found = least(machine)
        self.assertEqual(found, plain_least(machine))
        self.assertEqual(least(found), found)
        self.assertTrue(same_accepted(machine, found))
        self.assertTrue(is_machine(found))
        return found

    def test_random_machines(self):
        numbers = random.Random(21)
        for kind in KINDS:
            for tracks in (0, 1, 2):
                for count in (1, 2, 3, 5, 8):
                    for _ in range(4):
                        self.check(random_machine(numbers, kind, tracks, count))

    def test_inflated_machines(self):
        numbers = random.Random(22)
        for kind in KINDS:
            for tracks in (0, 1):
                for count in (1, 2, 4, 6):
                    machine = random_machine(numbers, kind, tracks, count)
                    large = inflated(numbers, machine, 3)
                    self.assertEqual(self.check(large), least(machine))

    def test_all_small_marked_shapes(self):
        numbers = random.Random(23)
        for kind in KINDS:
            machine = random_machine(numbers, kind, 1, 6)
            found = least(machine)
            for marked in small_marked(kind, 1, 3):
                self.assertIs(accepts(found, marked), accepts(machine, marked))

    def test_all_tiny_machines(self):
        entries = list(itertools.product(range(3), repeat=6))
        for numbers in entries[::5]:
            for good in ([0], [2], [0, 1]):
                table = (numbers[:3], numbers[3:])
                self.check((AB, 0, table, tuple(state in good for state in range(3))))
        for numbers in itertools.product(range(2), repeat=4):
            for good in ((True, False), (False, True), (True, True)):
                self.check(((2, ("z",)), 0, ((numbers[:2], numbers[2:]),), good))

    def test_six_tracks(self):
        numbers = random.Random(24)
        self.check(random_machine(numbers, (1, ("a", "b", "c")), 6, 20))
        self.check(random_machine(numbers, (2, ("a",)), 6, 4))


class LargeMachinesTest(unittest.TestCase):
    def test_counters(self):
        for kind in [(1, ("a",)), (2, ("a",)), (1, ("a", "b", "c"))]:
            for modulus in (299, 300):
                machine = counting(kind, modulus)
                self.assertEqual(least(machine), machine)
            self.assertEqual(least(counting(kind, 300, range(0, 300, 2))), counting(kind, 2))
            self.assertEqual(least(counting(kind, 300, range(0, 300, 60))), counting(kind, 60))

    def test_ladders(self):
        # the states are told apart one after the other
        for kind in [(1, ("a",)), (2, ("a",))]:
            machine = make_machine(kind, 0, 300, lambda sign, states: min(max(states) + 1, 299), [299])
            self.assertEqual(least(machine), machine)
            machine = make_machine(kind, 0, 300, lambda sign, states: min(max(states) + 1, 299), [0])
            self.assertEqual(len(least(machine)[3]), 2)
            machine = make_machine(kind, 0, 300, lambda sign, states: max(states[-1] - 1, 0), [0])
            self.assertEqual(len(least(machine)[3]), 1)

    def test_random_words_with_many_states(self):
        numbers = random.Random(25)
        for tracks in (0, 1, 3):
            machine = random_machine(numbers, AB, tracks, 300)
            self.assertEqual(least(machine), plain_least(machine))

    def test_random_trees_with_many_states(self):
        numbers = random.Random(26)
        machine = random_machine(numbers, (2, ("a",)), 0, 300)
        self.assertEqual(least(machine), plain_least(machine))
        machine = random_machine(numbers, (2, ("a", "b")), 1, 60)
        self.assertEqual(least(machine), plain_least(machine))

    def test_inflated_to_many_states(self):
        numbers = random.Random(27)
        for kind, tracks in [((1, ("a", "b")), 1), ((2, ("a",)), 0)]:
            machine = random_machine(numbers, kind, tracks, 37)
            large = inflated(numbers, machine, 8)
            self.assertEqual(least(large), plain_least(machine))

    def test_more_states_than_a_machine_has(self):
        machine = counting((1, ("a",)), 350)
        self.assertEqual(least(machine), machine)


if __name__ == "__main__":
    unittest.main()
