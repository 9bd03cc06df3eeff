"""Promises 17 and 18: the machines of programs, with promises 3 to 9 for what is refused."""

import copy
import unittest

from legion.errors import BadProgram
from legion.flow import points_of, steps_of
from legion.machine import check_machine, compile_program
from legion.program import fitted, holds, value_of
from tests.makers import programs
from tests.samples import full_program, lists_within, new_lists, spoil, with_body
from tests.test_layout import places_in_order, states_in_order


def naive_machine(program):
    """The machine of a valid program, made from lists of all states and all places."""
    shares, locks, _, kinds = program
    states, places = states_in_order(program), places_in_order(program)
    entries = [
        places.index((at, 0, {variable[0]: variable[3] for variable in kind[2]}))
        for at, kind in enumerate(kinds)
    ]
    counts = [0] * len(places)
    for at, kind in enumerate(kinds):
        if kind[1] is None:
            crew = entries[at]
        else:
            counts[entries[at]] = kind[1]
    moves = []
    for state, (values, held) in enumerate(states):
        for place, (kind, point, own) in enumerate(places):
            for step in steps_of(kinds[kind]):
                if step[0] == point:
                    move = naive_move(program, states, places, entries, state, place, step)
                    if move is not None and move not in moves:
                        moves.append(move)
    first = ({share[0]: share[3] for share in shares}, [])
    return (len(states), len(places), (states.index(first), counts), crew, moves)


def naive_move(program, states, places, entries, state, place, step):
    """The move of a step from a state and a place, or None if it is not possible."""
    shares, locks, _, kinds = program
    values, held = copy.deepcopy(states[state])
    kind, _, own = copy.deepcopy(places[place])
    _, action, target = step
    everything = values | own
    started, shifts = None, []
    if action[0] == "when" and not holds(action[1], everything):
        return None
    if action[0] == "acquire":
        if action[1] in held:
            return None
        held = [lock for lock in locks if lock in held or lock == action[1]]
    if action[0] == "release" and action[1] in held:
        held.remove(action[1])
    if action[0] == "set":
        for variable in shares + kinds[kind][2]:
            if variable[0] == action[1]:
                changed = values if variable in shares else own
                changed[action[1]] = fitted(variable, value_of(action[2], everything))
    if action[0] == "start":
        started = [entry for entry in entries if kinds[places[entry][0]][0] == action[1]][0]
    if action[0] == "wake":
        for at, (other, point, locals_there) in enumerate(places):
            for bell, resting, follower in points_of(kinds[other])[3]:
                if bell == action[1] and resting == point:
                    shifts.append((at, places.index((other, follower, locals_there))))
    next_state = states.index((values, held))
    return (state, place, next_state, places.index((kind, target, own)), started, shifts)


def moves_of(shares, locks, bells, kinds):
    """The moves of a program."""
    return compile_program((shares, locks, bells, kinds))[4]


def crew(body, *variables):
    """A crew with a body and locals."""
    return ("c", None, list(variables), body)


X = ("x", 0, 2, 1)
V = ("v", 4, 5, 5)


class ByHand(unittest.TestCase):
    def test_smallest(self):
        self.assertEqual(compile_program(([], [], [], [crew([])])), (1, 2, (0, [0, 0]), 0, []))

    def test_start(self):
        kinds = [("d", 2, [V], []), crew([("skip",)], V), ("e", 9, [], []), ("f", 0, [], [])]
        machine = compile_program(([X], ["l"], [], kinds))
        self.assertEqual(machine[:2], (6, 4 + 6 + 2 + 2))
        self.assertEqual(machine[2], (2, [0, 2, 0, 0] + [0] * 6 + [9, 0] + [0, 0]))
        self.assertEqual(machine[3], 5)

    def test_skip_and_mark(self):
        for statement in [("skip",), ("mark", "a")]:
            self.assertEqual(moves_of([X], [], [], [crew([statement])]), [
                (state, 0, state, 1, None, []) for state in range(3)
            ])

    def test_set_share(self):
        self.assertEqual(moves_of([X], [], [], [crew([("set", "x", ("+", "x", 1))])]), [
            (0, 0, 1, 1, None, []), (1, 0, 2, 1, None, []), (2, 0, 0, 1, None, []),
        ])
        self.assertEqual(moves_of([X], [], [], [crew([("set", "x", -4)])]), [
            (0, 0, 2, 1, None, []), (1, 0, 2, 1, None, []), (2, 0, 2, 1, None, []),
        ])

    def test_set_local(self):
        self.assertEqual(moves_of([X], [], [], [crew([("set", "v", ("+", "v", "x"))], V)]), [
            (0, 0, 0, 2, None, []), (0, 1, 0, 3, None, []),
            (1, 0, 1, 3, None, []), (1, 1, 1, 2, None, []),
            (2, 0, 2, 2, None, []), (2, 1, 2, 3, None, []),
        ])

    def test_set_share_by_local(self):
        self.assertEqual(moves_of([X], [], [], [crew([("set", "x", "v")], V)]), [
            (0, 0, 1, 2, None, []), (0, 1, 2, 3, None, []),
            (1, 0, 1, 2, None, []), (1, 1, 2, 3, None, []),
            (2, 0, 1, 2, None, []), (2, 1, 2, 3, None, []),
        ])

    def test_locks(self):
        body = [("acquire", "l"), ("release", "l")]
        # States: nothing held, l held, m held, both held.
        self.assertEqual(moves_of([], ["m", "l"], [], [crew(body)]), [
            (0, 0, 1, 1, None, []), (0, 1, 0, 2, None, []),
            (1, 1, 0, 2, None, []),
            (2, 0, 3, 1, None, []), (2, 1, 2, 2, None, []),
            (3, 1, 2, 2, None, []),
        ])

    def test_check(self):
        self.assertEqual(moves_of([X], [], [], [crew([("check", ("<", "x", 1))])]), [
            (0, 0, 0, 1, None, []), (1, 0, 1, 2, None, []), (2, 0, 2, 2, None, []),
        ])

    def test_await(self):
        self.assertEqual(moves_of([X], [], [], [crew([("await", ("<", "x", 1))])]), [
            (0, 0, 0, 1, None, []),
        ])
        self.assertEqual(moves_of([X], [], [], [crew([("await", False)])]), [])

    def test_if_and_loop(self):
        body = [("if", ("=", "x", 2), [("skip",)], []), ("loop", ("<", "x", 1), [])]
        self.assertEqual(moves_of([X], [], [], [crew(body)]), [
            (0, 0, 0, 2, None, []), (0, 1, 0, 2, None, []), (0, 2, 0, 2, None, []),
            (1, 0, 1, 2, None, []), (1, 1, 1, 2, None, []), (1, 2, 1, 3, None, []),
            (2, 0, 2, 1, None, []), (2, 1, 2, 2, None, []), (2, 2, 2, 3, None, []),
        ])

    def test_choose(self):
        body = [("choose", [[("skip",)], [], [("mark", "a")], []])]
        self.assertEqual(moves_of([], [], [], [crew(body)]), [
            (0, 0, 0, 1, None, []), (0, 0, 0, 3, None, []), (0, 0, 0, 2, None, []),
            (0, 1, 0, 3, None, []), (0, 2, 0, 3, None, []),
        ])

    def test_equal_moves_once(self):
        self.assertEqual(moves_of([], [], [], [crew([("choose", [[], [], []])])]), [
            (0, 0, 0, 1, None, []),
        ])
        self.assertEqual(moves_of([], [], [], [crew([("if", True, [], [])])]), [
            (0, 0, 0, 1, None, []),
        ])
        body = [("loop", True, [("choose", [[]] * 50 + [[("skip",)]] + [[]] * 50)])]
        self.assertEqual(moves_of([], [], [], [crew(body)]), [
            (0, 0, 0, 1, None, []), (0, 1, 0, 0, None, []), (0, 1, 0, 2, None, []),
            (0, 2, 0, 0, None, []),
        ])

    def test_started(self):
        kinds = [
            crew([("start", "e"), ("start", "c")], V), ("d", 1, [], []),
            ("e", 0, [("u", 0, 1, 0), V], [("start", "d")]),
        ]
        # The crew has the places 0 to 7, d has 8 and 9, e has 10 to 21; e starts at 11.
        wanted = [(0, 0, 0, 2, 11, []), (0, 1, 0, 3, 11, []), (0, 2, 0, 4, 1, []),
                  (0, 3, 0, 5, 1, [])]
        wanted += [(0, 10 + at, 0, 14 + at, 8, []) for at in range(4)]
        self.assertEqual(moves_of([], [], [], kinds), wanted)

    def test_shifts(self):
        kinds = [
            ("d", 0, [], [("wake", "b")]),
            crew([("rest", "b"), ("rest", "a"), ("loop", False, [("rest", "b")])], V),
            ("e", 1, [], [("wake", "a"), ("rest", "b")]),
        ]
        # d has 0 to 2, the crew 3 to 20 with resting points 5 to 7, e 21 to 25.
        b = [(13, 5), (14, 6), (17, 7), (18, 8), (24, 23)]
        a = [(15, 7), (16, 8)]
        wanted = [(0, 0, 0, 1, None, b)]
        wanted += [(0, 3, 0, 13, None, []), (0, 4, 0, 14, None, [])]
        wanted += [(0, 5, 0, 15, None, []), (0, 6, 0, 16, None, [])]
        wanted += [(0, 7, 0, 11, None, []), (0, 8, 0, 12, None, [])]
        wanted += [(0, 9, 0, 17, None, []), (0, 10, 0, 18, None, [])]
        wanted += [(0, 21, 0, 22, None, a), (0, 22, 0, 24, None, [])]
        self.assertEqual(moves_of([], [], ["a", "b"], kinds), wanted)

    def test_wake_without_rests(self):
        self.assertEqual(moves_of([], [], ["a", "b"], [crew([("wake", "b"), ("rest", "a")])]), [
            (0, 0, 0, 1, None, []), (0, 1, 0, 3, None, []),
        ])

    def test_two_waking_statements(self):
        body = [("wake", "b"), ("wake", "b"), ("rest", "b")]
        machine = compile_program(([], [], ["b"], [crew(body)]))
        self.assertEqual(machine[4], [
            (0, 0, 0, 1, None, [(4, 3)]), (0, 1, 0, 2, None, [(4, 3)]), (0, 2, 0, 4, None, []),
        ])
        new_lists(self, machine)

    def test_kinds_with_locals_of_one_name(self):
        body = [("set", "v", ("+", "v", 1))]
        kinds = [("d", 1, [("v", 0, 1, 0)], body), crew(body, ("v", -1, -1, -1))]
        self.assertEqual(moves_of([], [], [], kinds), [
            (0, 0, 0, 3, None, []), (0, 1, 0, 2, None, []), (0, 6, 0, 7, None, []),
        ])


class Everything(unittest.TestCase):
    def test_what_is_made(self):
        for program in programs(300):
            before = copy.deepcopy(program)
            machine = compile_program(program)
            self.assertIsNone(check_machine(machine))
            self.assertEqual(repr(machine), repr(naive_machine(program)))
            self.assertEqual(program, before)

    def test_full_program(self):
        program = full_program()
        self.assertEqual(repr(compile_program(program)), repr(naive_machine(program)))
        self.assertEqual(repr(program), repr(full_program()))

    def test_largest(self):
        body = [("set", "x", ("+", "x", 1))] * 46
        program = ([("x", 0, 31, 7)], ["l"], [], [crew(body, ("v", 0, 1, 1))])
        machine = compile_program(program)
        self.assertEqual(machine[:2], (64, 96))
        self.assertEqual(len(machine[4]), 64 * 92)
        self.assertIsNone(check_machine(machine))
        self.assertEqual(machine[4][0], (0, 0, 2, 2, None, []))
        self.assertEqual(machine[4][-1], (63, 91, 1, 93, None, []))


class Lists(unittest.TestCase):
    """Promise 2: nothing is changed, and no list is shared."""

    def test_new_lists(self):
        for program in programs(60) + [full_program()]:
            first, second = compile_program(program), compile_program(program)
            self.assertEqual(first, second)
            new_lists(self, (first, second), program)

    def test_the_program_may_change_later(self):
        for program in programs(60) + [full_program()]:
            passed = copy.deepcopy(program)
            machine = compile_program(passed)
            kept = copy.deepcopy(machine)
            spoil(passed)
            self.assertEqual(machine, kept)
            self.assertEqual(compile_program(program), kept)

    def test_the_machine_may_change_later(self):
        for program in programs(60) + [full_program()]:
            before = copy.deepcopy(program)
            machine = compile_program(program)
            kept = copy.deepcopy(machine)
            for one in lists_within(machine):
                one.append("more")
            self.assertEqual(program, before)
            self.assertEqual(compile_program(program), kept)


class Refused(unittest.TestCase):
    """Wrong programs of all sorts are refused wherever tests use samples.refuses."""

    def test_wrong_programs(self):
        for program in [
            None, 0, "", "kind c any\nend\n", (), [], ([], [], []), [[], [], [], [crew([])]],
            ([], [], [], []), ([], [], [], [("c", 1, [], [])]), ([], [], [], [crew([]), crew([])]),
            ([], [], [], [crew([]), ("d", None, [], [])]), with_body([("set", "q", 1)]),
            with_body([("acquire", "l")]), with_body([("skip",)] * 95),
            ([("x", 0, 64, 0)], [], [], [crew([])]),
            ([], [f"l{at}" for at in range(7)], [], [crew([])]),
            ([("x", 1, 0, 0)], [], [], [crew([])]), ([("x", 0, 1, 2)], [], [], [crew([])]),
        ]:
            with self.assertRaises(BadProgram, msg=repr(program)[:200]):
                compile_program(program)
