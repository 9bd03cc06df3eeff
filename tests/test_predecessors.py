"""Promise 24: the predecessors of situations."""

import copy
import itertools
import unittest

from legion.back import predecessors
from legion.errors import OutOfRange
from legion.machine import compile_program
from legion.order import covers, least_ones
from legion.runs import after, is_possible
from tests.makers import machines, programs
from tests.samples import new_lists, spoil
from tests.slowly import predecessors_by_words

# Two shared states and five places.
MACHINE = (2, 5, (0, [1, 0, 2, 0, 0]), 1, [
    (0, 1, 1, 0, None, []),
    (1, 0, 0, 1, 3, []),
    (0, 2, 0, 2, None, [(3, 0)]),
    (0, 1, 0, 4, 4, []),
    (1, 4, 1, 4, None, [(1, 0), (2, 0)]),
    (0, 3, 1, 3, 2, [(2, 1), (3, 1), (4, 0)]),
    (0, 0, 0, 0, None, [(0, 1), (2, 1)]),
    (1, 1, 0, 2, None, [(2, 4)]),
])


class ByHand(unittest.TestCase):
    def check(self, move, situation, wanted):
        self.assertEqual(predecessors(MACHINE, move, situation), wanted)

    def test_without_started_and_shifts(self):
        self.check(0, (1, [1, 0, 0, 0, 0]), [(0, [0, 1, 0, 0, 0])])
        self.check(0, (1, [3, 0, 0, 0, 2]), [(0, [2, 1, 0, 0, 2])])
        self.check(0, (1, [2, 4, 0, 0, 0]), [(0, [1, 5, 0, 0, 0])])
        # What is needed at next_place does not go below 0.
        self.check(0, (1, [0, 0, 0, 0, 0]), [(0, [0, 1, 0, 0, 0])])
        self.check(0, (1, [0, 2, 1, 0, 0]), [(0, [0, 3, 1, 0, 0])])

    def test_another_shared_state(self):
        for counts in [[0] * 5, [1, 0, 0, 0, 0], [5, 5, 5, 5, 5]]:
            self.check(0, (0, counts), [])
            self.check(1, (1, counts), [])
            self.check(5, (0, counts), [])

    def test_started(self):
        self.check(1, (0, [0, 1, 0, 1, 0]), [(1, [1, 0, 0, 0, 0])])
        self.check(1, (0, [0, 3, 0, 2, 0]), [(1, [1, 2, 0, 1, 0])])
        self.check(1, (0, [0, 1, 0, 0, 0]), [(1, [1, 0, 0, 0, 0])])
        self.check(1, (0, [0, 0, 0, 1, 0]), [(1, [1, 0, 0, 0, 0])])
        self.check(1, (0, [2, 0, 0, 0, 0]), [(1, [3, 0, 0, 0, 0])])

    def test_started_at_next_place(self):
        for count, left in [(0, 0), (1, 0), (2, 0), (3, 1), (7, 5)]:
            self.check(3, (0, [0, 0, 0, 0, count]), [(0, [0, 1, 0, 0, left])])

    def test_one_shift(self):
        self.check(2, (0, [0, 0, 0, 0, 0]), [(0, [0, 0, 1, 0, 0])])
        self.check(2, (0, [1, 0, 1, 0, 0]), [(0, [0, 0, 1, 1, 0]), (0, [1, 0, 1, 0, 0])])
        self.check(2, (0, [2, 1, 3, 0, 0]), [
            (0, [0, 1, 3, 2, 0]), (0, [1, 1, 3, 1, 0]), (0, [2, 1, 3, 0, 0]),
        ])

    def test_need_at_a_first_place(self):
        self.check(2, (0, [0, 0, 0, 1, 0]), [])
        self.check(2, (0, [1, 0, 1, 2, 0]), [])
        self.check(4, (1, [0, 1, 0, 0, 1]), [])
        self.check(7, (0, [0, 0, 2, 0, 0]), [])
        self.check(5, (1, [0, 0, 1, 2, 0]), [])
        self.check(5, (1, [0, 0, 2, 1, 0]), [])
        self.check(5, (1, [0, 0, 1, 1, 1]), [])

    def test_next_place_and_started_are_first_places(self):
        # The thread that moves, and the one that is started, come after the shifts.
        self.check(7, (0, [0, 0, 1, 0, 0]), [(1, [0, 1, 0, 0, 0])])
        self.check(7, (0, [0, 0, 1, 0, 1]), [(1, [0, 1, 0, 0, 1]), (1, [0, 1, 1, 0, 0])])
        self.check(5, (1, [0, 0, 1, 1, 0]), [(0, [0, 0, 0, 1, 0])])
        self.check(6, (0, [1, 0, 0, 0, 0]), [(0, [1, 0, 0, 0, 0])])

    def test_place_is_a_first_place(self):
        # One thread is at place only to move, whatever the division gives it.
        self.check(6, (0, [1, 1, 0, 0, 0]), [
            (0, [1, 0, 1, 0, 0]), (0, [1, 1, 0, 0, 0]), (0, [2, 0, 0, 0, 0]),
        ])

    def test_several_pairs_with_one_second_place(self):
        self.check(4, (1, [1, 0, 0, 0, 1]), [
            (1, [0, 0, 1, 0, 1]), (1, [0, 1, 0, 0, 1]), (1, [1, 0, 0, 0, 1]),
        ])
        self.check(4, (1, [2, 0, 0, 3, 0]), [
            (1, [0, 0, 2, 3, 1]), (1, [0, 1, 1, 3, 1]), (1, [0, 2, 0, 3, 1]),
            (1, [1, 0, 1, 3, 1]), (1, [1, 1, 0, 3, 1]), (1, [2, 0, 0, 3, 1]),
        ])

    def test_several_second_places(self):
        self.check(5, (1, [1, 1, 0, 0, 0]), [
            (0, [0, 0, 0, 2, 1]), (0, [0, 0, 1, 1, 1]), (0, [0, 1, 0, 1, 1]),
            (0, [1, 0, 0, 2, 0]), (0, [1, 0, 1, 1, 0]), (0, [1, 1, 0, 1, 0]),
        ])

    def test_number_of_divisions(self):
        machine = (1, 6, (0, [0] * 6), 0, [
            (0, 5, 0, 5, None, [(0, 4), (1, 4), (2, 4), (3, 4)]),
        ])
        found = predecessors(machine, 0, (0, [0, 0, 0, 0, 20, 1]))
        wanted = []
        for parts in itertools.product(range(21), repeat=4):
            if sum(parts) <= 20:
                wanted.append((0, [*parts, 20 - sum(parts), 1]))
        self.assertEqual(len(wanted), 10626)
        self.assertEqual(found, wanted)

    def test_great_counts(self):
        self.check(0, (1, [10 ** 20, 0, 0, 0, 10 ** 9]), [(0, [10 ** 20 - 1, 1, 0, 0, 10 ** 9])])
        found = predecessors(MACHINE, 2, (0, [4000, 0, 0, 0, 0]))
        self.assertEqual(found, [(0, [n, 0, 1, 4000 - n, 0]) for n in range(4001)])

    def test_moves_that_do_not_exist(self):
        for move in [-1, -8, -9, 8, 9, 10 ** 30]:
            for situation in [(0, [1, 1, 1, 1, 1]), (1, [0, 0, 0, 0, 0])]:
                with self.assertRaises(OutOfRange):
                    predecessors(MACHINE, move, situation)
        for move in [-1, 0, 1]:
            with self.assertRaises(OutOfRange):
                predecessors((1, 1, (0, [1]), 0, []), move, (0, [1]))


class AsTheyAreDefined(unittest.TestCase):
    def check(self, machine, move, situation):
        found = predecessors(machine, move, situation)
        self.assertEqual(found, predecessors_by_words(machine, move, situation))
        self.assertEqual(found, sorted(found))

    def test_the_machine_above(self):
        for state in [0, 1]:
            for counts in itertools.product(range(3), repeat=5):
                if sum(counts) <= 3:
                    for move in range(len(MACHINE[4])):
                        self.check(MACHINE, move, (state, list(counts)))

    def test_what_is_made(self):
        for machine, maker in machines(150, seed=24):
            for move in range(len(machine[4])):
                for _ in range(3):
                    situation = maker.situation(machine)
                    situation = (machine[4][move][2], situation[1])
                    if sum(situation[1]) <= 4:
                        self.check(machine, move, situation)

    def test_of_programs(self):
        # Each one is right by itself, and none of the others is below it.
        for program in programs(60, seed=24):
            machine = compile_program(program)
            for move in range(0, len(machine[4]), 1 + len(machine[4]) // 40):
                taken = machine[4][move]
                counts = [0] * machine[1]
                counts[taken[3]] += 1
                for _, second in taken[5]:
                    counts[second] = 1
                situation = (taken[2], counts)
                found = predecessors(machine, move, situation)
                self.assertEqual(found, least_ones(found))
                for one in found:
                    self.assertIs(is_possible(machine, one, move), True)
                    self.assertIs(covers(after(machine, one, move), situation), True)


class Values(unittest.TestCase):
    def test_new_lists(self):
        for machine, maker in machines(60, seed=42):
            for move in range(len(machine[4])):
                situation = maker.situation(machine)
                before = copy.deepcopy((machine, situation))
                first = predecessors(machine, move, situation)
                second = predecessors(machine, move, situation)
                new_lists(self, (first, second), machine, situation)
                spoil(first)
                self.assertEqual((machine, situation), before)
                self.assertEqual(predecessors(machine, move, situation), second)

    def test_kinds_of_values(self):
        for move, situation in [(0, (0, [0] * 5)), (4, (1, [2, 0, 0, 0, 0]))]:
            found = predecessors(MACHINE, move, situation)
            self.assertIs(type(found), list)
            for one in found:
                self.assertIs(type(one), tuple)
                self.assertIs(type(one[1]), list)
