"""Promises 15 and 16: the numbers of shared states and places."""

import copy
import itertools
import unittest

from legion.errors import OutOfRange
from legion.flow import points_of
from legion.machine import Layout
from tests.makers import programs
from tests.samples import full_program, lists_within, new_lists, spoil

CREW = ("c", None, [], [])


def states_in_order(program):
    """The pairs (values, held) of all shared states, in the order of their numbers."""
    shares, locks = program[0], program[1]
    ranges = [range(share[1], share[2] + 1) for share in shares] + [(0, 1) for _ in locks]
    found = []
    for row in itertools.product(*ranges):
        values = {share[0]: number for share, number in zip(shares, row)}
        held = [lock for lock, bit in zip(locks, row[len(shares):]) if bit]
        found.append((values, held))
    return found


def places_in_order(program):
    """The tuples (kind, point, values) of all places, in the order of their numbers."""
    found = []
    for at, kind in enumerate(program[3]):
        names = [variable[0] for variable in kind[2]]
        ranges = [range(variable[1], variable[2] + 1) for variable in kind[2]]
        for point in range(points_of(kind)[0]):
            for row in itertools.product(*ranges):
                found.append((at, point, dict(zip(names, row))))
    return found


class States(unittest.TestCase):
    def test_by_hand(self):
        program = ([("x", 0, 2, 1), ("y", -3, -2, -3)], ["m", "l"], [], [CREW])
        layout = Layout(program)
        self.assertEqual(layout.states, 24)
        for values, held, number in [
            ({"x": 0, "y": -3}, [], 0),
            ({"x": 0, "y": -3}, ["l"], 1),
            ({"x": 0, "y": -3}, ["m"], 2),
            ({"x": 0, "y": -3}, ["m", "l"], 3),
            ({"x": 0, "y": -2}, [], 4),
            ({"x": 1, "y": -3}, [], 8),
            ({"x": 2, "y": -2}, ["m"], 22),
            ({"x": 2, "y": -2}, ["m", "l"], 23),
        ]:
            self.assertEqual(layout.state_number(values, held), number)
            self.assertEqual(layout.state_values(number), (values, held))

    def test_no_shares_and_no_locks(self):
        layout = Layout(([], [], [], [CREW]))
        self.assertEqual(layout.states, 1)
        self.assertEqual(layout.state_number({}, []), 0)
        self.assertEqual(layout.state_values(0), ({}, []))

    def test_locks_in_any_order(self):
        layout = Layout(([], ["b", "a", "c"], [], [CREW]))
        for held in itertools.permutations(["a", "b", "c"]):
            self.assertEqual(layout.state_number({}, list(held)), 7)
        self.assertEqual(layout.state_number({}, ["c", "b"]), 5)
        self.assertEqual(layout.state_values(5), ({}, ["b", "c"]))
        self.assertEqual(layout.state_values(6), ({}, ["b", "a"]))

    def test_there_and_back(self):
        large = [
            ([("x", -31, 32, 0)], [], [], [CREW]),
            ([], ["f", "e", "d", "c", "b", "a"], [], [CREW]),
            ([("x", -99, -96, -98), ("y", 98, 99, 98), ("z", 5, 5, 5)], ["b", "a", "c"], [], [CREW]),
        ]
        for program in large:
            self.assertEqual(Layout(program).states, 64)
        for program in programs(60) + large + [full_program()]:
            layout = Layout(program)
            wanted = states_in_order(program)
            self.assertEqual(layout.states, len(wanted))
            for number, (values, held) in enumerate(wanted):
                self.assertEqual(layout.state_number(values, held), number)
                found = layout.state_values(number)
                self.assertEqual(found, (values, held))
                self.assertIs(type(found), tuple)
                self.assertEqual(list(found[0]), list(values))

    def test_numbers_that_do_not_exist(self):
        for program in programs(20) + [full_program()]:
            layout = Layout(program)
            for number in [-1, -2, -layout.states, layout.states, layout.states + 1, 10 ** 30]:
                with self.assertRaises(OutOfRange):
                    layout.state_values(number)


class Places(unittest.TestCase):
    def test_by_hand(self):
        kinds = [
            ("d", 1, [("v", -1, 0, 0), ("w", 3, 5, 4)], [("skip",)]),
            ("c", None, [], [("rest", "b"), ("skip",)]),
            ("e", 0, [("v", 7, 8, 7)], []),
        ]
        layout = Layout(([], [], ["b"], kinds))
        self.assertEqual(layout.places, 3 * 6 + 5 + 2 * 2)
        for kind, point, values, number in [
            (0, 0, {"v": -1, "w": 3}, 0),
            (0, 0, {"v": -1, "w": 4}, 1),
            (0, 0, {"v": 0, "w": 3}, 3),
            (0, 1, {"v": -1, "w": 3}, 6),
            (0, 2, {"v": 0, "w": 5}, 17),
            (1, 0, {}, 18),
            (1, 3, {}, 21),
            (1, 4, {}, 22),
            (2, 0, {"v": 7}, 23),
            (2, 0, {"v": 8}, 24),
            (2, 1, {"v": 8}, 26),
        ]:
            self.assertEqual(layout.place_number(kind, point, values), number)
            self.assertEqual(layout.place_values(number), (kind, point, values))

    def test_there_and_back(self):
        most = [
            ([], [], [], [("c", None, [], [("skip",)] * 94)]),
            ([], [], [], [("c", None, [("v", -40, 7, 0)], [])]),
            ([], [], [], [CREW] + [(f"k{at}", 0, [], []) for at in range(47)]),
        ]
        for program in most:
            self.assertEqual(Layout(program).places, 96)
        for program in programs(60) + most + [full_program()]:
            layout = Layout(program)
            wanted = places_in_order(program)
            self.assertEqual(layout.places, len(wanted))
            for number, (kind, point, values) in enumerate(wanted):
                self.assertEqual(layout.place_number(kind, point, values), number)
                found = layout.place_values(number)
                self.assertEqual(found, (kind, point, values))
                self.assertIs(type(found), tuple)
                self.assertEqual(list(found[2]), list(values))

    def test_numbers_that_do_not_exist(self):
        for program in programs(20) + [full_program()]:
            layout = Layout(program)
            for number in [-1, -2, -layout.places, layout.places, layout.places + 1, 10 ** 30]:
                with self.assertRaises(OutOfRange):
                    layout.place_values(number)


class Lists(unittest.TestCase):
    """Promise 2: nothing is changed, and no list is shared."""

    def answers(self, layout):
        states = [layout.state_values(number) for number in range(layout.states)]
        places = [layout.place_values(number) for number in range(layout.places)]
        return (layout.states, layout.places, states, places)

    def test_the_program_may_change_later(self):
        for program in programs(40) + [full_program()]:
            wanted = self.answers(Layout(program))
            passed = copy.deepcopy(program)
            layout = Layout(passed)
            self.assertEqual(passed, program)
            spoil(passed)
            self.assertEqual(self.answers(layout), wanted)
            for number, (values, held) in enumerate(wanted[2]):
                self.assertEqual(layout.state_number(values, held), number)
            for number, place in enumerate(wanted[3]):
                self.assertEqual(layout.place_number(*place), number)

    def test_answers_are_new(self):
        for program in programs(40) + [full_program()]:
            layout = Layout(program)
            before = copy.deepcopy(program)
            first, second = self.answers(layout), self.answers(layout)
            new_lists(self, (first, second), program)
            spoil(first)
            self.assertEqual(self.answers(layout), second)
            self.assertEqual(program, before)

    def test_arguments_are_not_changed(self):
        program = full_program()
        layout = Layout(program)
        values, held = {"x": 2}, ["m", "l"]
        layout.state_number(values, held)
        self.assertEqual((values, held), ({"x": 2}, ["m", "l"]))
        own = {"v": 1}
        layout.place_number(0, 3, own)
        self.assertEqual(own, {"v": 1})

    def test_two_layouts(self):
        first, second = Layout(([("x", 0, 5, 0)], [], [], [CREW])), Layout(full_program())
        self.assertEqual((first.states, first.places), (6, 2))
        self.assertEqual((second.states, second.places), (16, 69))
        self.assertTrue(lists_within(second.state_values(0)))
