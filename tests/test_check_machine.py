"""Promises 17 and 19: which machines are valid."""

import copy
import unittest

from legion.errors import BadMachine
from legion.machine import check_machine, compile_program
from tests.makers import machines, programs
from tests.samples import full_program


def small_machine():
    """A valid machine with everything that may occur in one."""
    moves = [
        (0, 1, 2, 3, None, []),
        (0, 1, 2, 3, 4, []),
        (0, 1, 2, 3, 4, [(0, 1), (2, 1), (4, 3)]),
        (2, 4, 0, 0, 0, [(4, 0)]),
        (2, 4, 0, 0, 0, [(3, 0), (4, 0)]),
    ]
    return (3, 5, (1, [0, 3, 0, 1, 12]), 2, moves)


def largest_machine():
    """A valid machine with as many shared states and places as there may be."""
    moves = [(state, 95 - state, 63 - state, state + 32, None, []) for state in range(64)]
    moves.append((63, 95, 63, 95, 95, [(place, place + 1) for place in range(0, 96, 2)]))
    return (64, 96, (63, [0] * 95 + [10 ** 20]), 95, moves)


def with_item(thing, path, item):
    """The thing with another item at a path of indexes."""
    if not path:
        return item
    parts = list(thing)
    parts[path[0]] = with_item(parts[path[0]], path[1:], item)
    return parts if isinstance(thing, list) else tuple(parts)


def number_paths(machine):
    """Tuples (path, bound): each number that is a state or a place must be below the bound."""
    states, places, _, _, moves = machine
    found = [((2, 0), states), ((3,), places)]
    for at, move in enumerate(moves):
        bounds = [states, places, states, places, places]
        for item in range(4 if move[4] is None else 5):
            found.append(((4, at, item), bounds[item]))
        for pair in range(len(move[5])):
            found.append(((4, at, 5, pair, 0), places))
            found.append(((4, at, 5, pair, 1), places))
    return found


class Machines(unittest.TestCase):
    def accepted(self, machine):
        try:
            self.assertIsNone(check_machine(machine))
        except BadMachine as error:
            self.fail(f"refused with: {error}; {machine}")

    def refused(self, machine, note=""):
        with self.assertRaises(BadMachine, msg=note):
            check_machine(machine)

    def valid_ones(self):
        few = [pair[0] for pair in machines(40)]
        return few + [small_machine(), largest_machine(), compile_program(full_program())]

    def test_valid_ones(self):
        self.accepted((1, 1, (0, [0]), 0, []))
        self.accepted((1, 1, (0, [7]), 0, [(0, 0, 0, 0, None, []), (0, 0, 0, 0, 0, [])]))
        for machine in self.valid_ones() + [pair[0] for pair in machines(300)]:
            self.accepted(machine)
        for program in programs(60):
            self.accepted(compile_program(program))

    def test_the_machine_is_not_changed(self):
        for machine in self.valid_ones():
            before = copy.deepcopy(machine)
            self.accepted(machine)
            self.refused(with_item(machine, (3,), -1))
            self.assertEqual(repr(machine), repr(before))

    def test_numbers_of_states_and_places(self):
        for states in range(1, 65):
            self.accepted((states, 1, (states - 1, [0]), 0, []))
        for states in [-64, -1, 0, 65, 66, 1000]:
            self.refused((states, 1, (0, [0]), 0, []))
        for places in range(1, 97):
            self.accepted((1, places, (0, [1] * places), places - 1, []))
        for places in [-96, -1, 0, 97, 98, 1000]:
            self.refused((1, places, (0, [1] * max(places, 0)), 0, []))
        self.refused((0, 0, (0, []), 0, []))

    def test_each_number(self):
        for machine in self.valid_ones():
            paths = number_paths(machine)
            # An odd step comes to all items of the moves of a large machine.
            for path, bound in paths[:: 1 + 2 * (len(paths) // 300)]:
                for number in [-1, -bound, bound, bound + 1, 10 ** 30]:
                    self.refused(with_item(machine, path, number), f"{path} {number}")

    def test_numbers_within(self):
        machine = (3, 5, (1, [0, 3, 0, 1, 12]), 2, [(0, 1, 2, 3, 4, [(1, 2)])])
        for path, bound in number_paths(machine):
            for number in range(bound):
                changed = with_item(machine, path, number)
                firsts = {pair[0] for pair in changed[4][0][5]}
                seconds = {pair[1] for pair in changed[4][0][5]}
                if firsts & seconds:
                    self.refused(changed)
                else:
                    self.accepted(changed)

    def test_counts_of_the_start(self):
        machine = small_machine()
        for at in range(5):
            for count in [0, 1, 100, 10 ** 30]:
                self.accepted(with_item(machine, (2, 1, at), count))
            for count in [-1, -2, -10 ** 30]:
                self.refused(with_item(machine, (2, 1, at), count))
        for counts in [[], [0], [0] * 4, [0] * 6, [0] * 100]:
            self.refused(with_item(machine, (2, 1), counts))
        largest = largest_machine()
        for many in [0, 95, 97]:
            self.refused(with_item(largest, (2, 1), [0] * many))

    def test_equal_moves(self):
        for machine in self.valid_ones():
            moves = machine[4]
            for at in range(0, len(moves), 1 + len(moves) // 40):
                for place in [0, at, at + 1, len(moves)]:
                    twice = moves[:place] + [copy.deepcopy(moves[at])] + moves[place:]
                    self.refused(with_item(machine, (4,), twice))

    def test_moves_that_differ_in_one_item(self):
        move = (0, 1, 0, 1, None, [(0, 1)])
        others = [
            (1, 1, 0, 1, None, [(0, 1)]), (0, 0, 0, 1, None, [(0, 1)]),
            (0, 1, 1, 1, None, [(0, 1)]), (0, 1, 0, 0, None, [(0, 1)]),
            (0, 1, 0, 1, 0, [(0, 1)]), (0, 1, 0, 1, 1, [(0, 1)]), (0, 1, 0, 1, None, []),
            (0, 1, 0, 1, None, [(0, 2)]), (0, 1, 0, 1, None, [(2, 1)]),
            (0, 1, 0, 1, None, [(0, 1), (2, 1)]),
        ]
        for other in others:
            self.accepted((2, 3, (0, [0, 0, 0]), 0, [move, other]))
        self.accepted((2, 3, (0, [0, 0, 0]), 0, [move] + others))
        self.refused((2, 3, (0, [0, 0, 0]), 0, [move] + others + [move]))

    def with_shifts(self, shifts):
        return (1, 6, (0, [0] * 6), 0, [(0, 0, 0, 0, None, []), (0, 5, 0, 4, 3, shifts)])

    def test_order_of_shifts(self):
        for shifts in [
            [(0, 5)], [(0, 5), (1, 4)], [(0, 4), (1, 5)], [(0, 5), (1, 5), (2, 5), (3, 5), (4, 5)],
            [(1, 0), (2, 0), (5, 0)], [(4, 0), (5, 3)], [(5, 4)],
        ]:
            self.accepted(self.with_shifts(shifts))
        for shifts in [
            [(1, 5), (0, 5)], [(0, 5), (0, 4)], [(0, 5), (0, 5)], [(0, 4), (0, 5)],
            [(0, 5), (2, 5), (1, 5)], [(0, 5), (1, 5), (1, 4), (2, 5)], [(2, 5), (1, 5), (0, 5)],
            [(0, 3), (1, 3), (2, 3), (2, 3)],
        ]:
            self.refused(self.with_shifts(shifts))

    def test_places_that_shift_themselves(self):
        for shifts in [
            [(0, 0)], [(5, 5)], [(0, 1), (1, 0)], [(0, 1), (1, 2)], [(1, 0), (2, 1)],
            [(0, 5), (1, 4), (2, 3), (3, 5)], [(0, 5), (5, 4)], [(0, 5), (1, 0)],
            [(0, 4), (1, 5), (2, 1)],
        ]:
            self.refused(self.with_shifts(shifts))
        # What another move shifts does not matter.
        moves = [(0, 0, 0, 0, None, [(0, 1)]), (0, 0, 0, 0, None, [(1, 0)])]
        self.accepted((1, 2, (0, [0, 0]), 0, moves))

    def test_shifts_beside_the_places_of_the_move(self):
        for place in range(3):
            for next_place in range(3):
                for started in [None, 0, 1, 2]:
                    move = (0, place, 0, next_place, started, [(0, 1)])
                    self.accepted((1, 3, (0, [0, 0, 0]), 0, [move]))

    def test_wrong_forms(self):
        machine = small_machine()
        for path, _ in number_paths(machine) + [((0,), 0), ((1,), 0), ((2, 1, 0), 0)]:
            for item in ["0", [0], (0,), [], ()]:
                self.refused(with_item(machine, path, item))
            if len(path) != 3 or path[2] != 4:
                self.refused(with_item(machine, path, None))
        for move in [(), (0, 0, 0, 0, None), (0, 0, 0, 0, None, [], []), (0, 0, 0, 0, [], None)]:
            self.refused(with_item(machine, (4, 0), move))
        for pair in [(), (0,), (0, 1, 1)]:
            self.refused(self.with_shifts([pair]))
