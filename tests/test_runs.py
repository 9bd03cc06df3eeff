"""Promises 20, 21 and 22: situations, moves, runs and schedules."""

import copy
import inspect
import unittest

from legion.errors import NotPossible, OutOfRange
from legion.machine import compile_program
from legion.order import covers
from legion.runs import (
    after,
    follow,
    is_possible,
    possible_moves,
    scheduled,
    situations,
    start_with,
)
from tests.makers import machines, programs
from tests.samples import full_program, new_lists, spoil
from tests.slowly import moved

# Two shared states and four places.
MACHINE = (2, 4, (0, [0, 0, 2, 0]), 1, [
    (0, 1, 1, 0, None, []),
    (1, 0, 0, 1, 3, []),
    (0, 2, 0, 2, None, [(3, 0)]),
    (0, 1, 0, 1, None, [(1, 0), (2, 0)]),
    (0, 3, 1, 3, 3, [(2, 1), (3, 1)]),
    (0, 1, 1, 3, None, []),
    (1, 2, 1, 2, 2, [(2, 3)]),
])


class Start(unittest.TestCase):
    def test_by_hand(self):
        for crew in [0, 1, 2, 99, 10 ** 20]:
            self.assertEqual(start_with(MACHINE, crew), (0, [0, crew, 2, 0]))

    def test_crew_beside_others(self):
        machine = (3, 2, (2, [1, 4]), 1, [])
        self.assertEqual(start_with(machine, 0), (2, [1, 4]))
        self.assertEqual(start_with(machine, 3), (2, [1, 7]))

    def test_negative(self):
        for crew in [-1, -2, -100]:
            with self.assertRaises(OutOfRange):
                start_with(MACHINE, crew)

    def test_new_lists(self):
        machine = copy.deepcopy(MACHINE)
        for crew in [0, 1]:
            first, second = start_with(machine, crew), start_with(machine, crew)
            new_lists(self, (first, second), machine)
            spoil(first)
            self.assertEqual(machine, MACHINE)
            self.assertEqual(start_with(machine, crew), second)

    def test_of_programs(self):
        for program in programs(40):
            machine = compile_program(program)
            state, counts = machine[2]
            for crew in [0, 1, 5]:
                wanted = list(counts)
                wanted[machine[3]] += crew
                self.assertEqual(start_with(machine, crew), (state, wanted))


class Moves(unittest.TestCase):
    def test_possible_by_hand(self):
        for situation, moves in [
            ((0, [0, 0, 0, 0]), []),
            ((1, [0, 9, 0, 9]), []),
            ((0, [0, 1, 0, 0]), [0, 3, 5]),
            ((0, [5, 0, 1, 0]), [2]),
            ((0, [0, 0, 0, 1]), [4]),
            ((0, [1, 1, 1, 1]), [0, 2, 3, 4, 5]),
            ((1, [1, 1, 1, 1]), [1, 6]),
            ((1, [2, 0, 0, 0]), [1]),
        ]:
            self.assertEqual(possible_moves(MACHINE, situation), moves)
            for move in range(7):
                self.assertIs(is_possible(MACHINE, situation, move), move in moves)

    def test_after_by_hand(self):
        for situation, move, wanted in [
            ((0, [0, 1, 0, 0]), 0, (1, [1, 0, 0, 0])),
            ((0, [2, 3, 4, 5]), 0, (1, [3, 2, 4, 5])),
            ((1, [2, 3, 4, 5]), 1, (0, [1, 4, 4, 6])),
            ((0, [2, 3, 4, 5]), 2, (0, [7, 3, 4, 0])),
            ((0, [2, 3, 4, 5]), 3, (0, [8, 1, 0, 5])),
            ((0, [2, 3, 4, 5]), 4, (1, [2, 11, 0, 2])),
            ((0, [0, 0, 0, 1]), 4, (1, [0, 0, 0, 2])),
            ((0, [2, 3, 4, 5]), 5, (1, [2, 2, 4, 6])),
            ((1, [2, 3, 4, 5]), 6, (1, [2, 3, 2, 8])),
            ((1, [0, 0, 1, 0]), 6, (1, [0, 0, 2, 0])),
        ]:
            self.assertEqual(after(MACHINE, situation, move), wanted)

    def test_moves_that_do_not_exist(self):
        situation = (0, [1, 1, 1, 1])
        for move in [-1, -7, -8, 7, 8, 10 ** 30]:
            for function in [is_possible, after]:
                with self.assertRaises(OutOfRange):
                    function(MACHINE, situation, move)
        empty = (1, 1, (0, [1]), 0, [])
        self.assertEqual(possible_moves(empty, (0, [1])), [])
        for move in [-1, 0, 1]:
            for function in [is_possible, after]:
                with self.assertRaises(OutOfRange):
                    function(empty, (0, [1]), move)

    def test_moves_that_are_not_possible(self):
        for situation, move in [
            ((1, [1, 1, 1, 1]), 0), ((0, [1, 0, 1, 1]), 0), ((0, [1, 1, 1, 1]), 1),
            ((1, [0, 1, 1, 1]), 1), ((0, [0, 0, 0, 0]), 2),
        ]:
            self.assertIs(is_possible(MACHINE, situation, move), False)
            with self.assertRaises(NotPossible):
                after(MACHINE, situation, move)

    def test_what_is_made(self):
        for machine, maker in machines(200):
            for _ in range(20):
                situation = maker.situation(machine)
                before = copy.deepcopy((machine, situation))
                wanted = [moved(machine, situation, move) for move in machine[4]]
                possible = [at for at, one in enumerate(wanted) if one is not None]
                self.assertEqual(possible_moves(machine, situation), possible)
                for move, one in enumerate(wanted):
                    self.assertIs(is_possible(machine, situation, move), one is not None)
                    if one is None:
                        with self.assertRaises(NotPossible):
                            after(machine, situation, move)
                    else:
                        self.assertEqual(after(machine, situation, move), one)
                self.assertEqual((machine, situation), before)

    def test_new_lists(self):
        for machine, maker in machines(60):
            situation = maker.situation(machine)
            for move in possible_moves(machine, situation):
                before = copy.deepcopy((machine, situation))
                first, second = after(machine, situation, move), after(machine, situation, move)
                new_lists(self, (first, second), machine, situation)
                spoil(first)
                self.assertEqual((machine, situation), before)
                self.assertEqual(after(machine, situation, move), second)

    def test_more_threads_can_do_what_fewer_can(self):
        for machine, maker in machines(150):
            for _ in range(20):
                state, counts = maker.situation(machine)
                more = (state, [count + maker.roll(3) for count in counts])
                possible = possible_moves(machine, more)
                for move in possible_moves(machine, (state, counts)):
                    self.assertIn(move, possible)
                    fewer_after = after(machine, (state, counts), move)
                    self.assertTrue(covers(after(machine, more, move), fewer_after))


class Runs(unittest.TestCase):
    start = (0, [0, 3, 2, 0])

    def test_by_hand(self):
        for run, wanted in [
            ([], [self.start]),
            ([0], [self.start, (1, [1, 2, 2, 0])]),
            ([0, 1, 4], [self.start, (1, [1, 2, 2, 0]), (0, [0, 3, 2, 1]), (1, [0, 5, 0, 2])]),
            ([3, 3], [self.start, (0, [4, 1, 0, 0]), (0, [4, 1, 0, 0])]),
        ]:
            self.assertEqual(follow(MACHINE, self.start, run), wanted)
            self.assertEqual(list(situations(MACHINE, self.start, run)), wanted)

    def test_wrong_runs(self):
        for run, error, right in [
            ([7], OutOfRange, 1), ([-1], OutOfRange, 1), ([1], NotPossible, 1),
            ([0, 0], NotPossible, 2), ([0, 7], OutOfRange, 2), ([0, 0, 7], NotPossible, 2),
            ([0, 7, 0], OutOfRange, 2), ([0, 1, -1], OutOfRange, 3), ([0, 1, 6], NotPossible, 3),
        ]:
            with self.assertRaises(error):
                follow(MACHINE, self.start, run)
            made = situations(MACHINE, self.start, run)
            for _ in range(right):
                next(made)
            with self.assertRaises(error):
                next(made)

    def test_situations_is_a_generator(self):
        self.assertTrue(inspect.isgeneratorfunction(situations))
        self.assertTrue(inspect.isgenerator(situations(MACHINE, self.start, [99])))
        with self.assertRaises(StopIteration):
            made = situations(MACHINE, self.start, [])
            self.assertEqual(next(made), self.start)
            next(made)

    def test_yielded_lists_may_change(self):
        for machine, maker in machines(100):
            situation = maker.situation(machine)
            run = scheduled(machine, situation, [maker.roll(100) for _ in range(10)])
            before = copy.deepcopy((machine, situation, run))
            wanted = follow(machine, situation, run)
            seen = []
            for one in situations(machine, situation, run):
                seen.append(copy.deepcopy(one))
                one[1].clear()
            self.assertEqual(seen, wanted)
            self.assertEqual((machine, situation, run), before)
            kept = list(situations(machine, situation, run))
            new_lists(self, (wanted, kept), machine, situation, run)
            self.assertEqual(kept, wanted)

    def test_what_is_made(self):
        for machine, maker in machines(150):
            situation = maker.situation(machine)
            run, wanted = [], [situation]
            for _ in range(12):
                possible = possible_moves(machine, wanted[-1])
                if possible:
                    run.append(maker.pick(possible))
                    wanted.append(moved(machine, wanted[-1], machine[4][run[-1]]))
            self.assertEqual(follow(machine, situation, run), wanted)

    def test_new_lists(self):
        for machine, maker in machines(60):
            situation = maker.situation(machine)
            run = scheduled(machine, situation, [3, 1, 4, 1, 5])
            before = copy.deepcopy((machine, situation, run))
            first, second = follow(machine, situation, run), follow(machine, situation, run)
            new_lists(self, (first, second), machine, situation, run)
            spoil(first)
            self.assertEqual((machine, situation, run), before)
            self.assertEqual(follow(machine, situation, run), second)


class Schedules(unittest.TestCase):
    start = (0, [0, 3, 2, 0])

    def test_by_hand(self):
        # First the moves 0, 2, 3 and 5 are possible; after move 0 the moves 1 and 6.
        for schedule, run in [
            ([], []), ([0], [0]), ([1], [2]), ([2], [3]), ([3], [5]), ([4], [0]), ([7], [5]),
            ([4 * 10 ** 20 + 2], [3]), ([0, 0], [0, 1]), ([0, 1], [0, 6]), ([0, 2], [0, 1]),
            ([0, 5], [0, 6]), ([0, 0, 3], [0, 1, 4]), ([0, 0, 8], [0, 1, 4]),
        ]:
            self.assertEqual(scheduled(MACHINE, self.start, schedule), run)

    def test_end_of_the_run(self):
        machine = (2, 2, (0, [0, 0]), 0, [(0, 0, 1, 1, None, []), (1, 0, 1, 1, None, [])])
        for schedule in [[0, 0, 0], [5, 7, 9, 11], [0] * 100]:
            self.assertEqual(scheduled(machine, (0, [2, 0]), schedule), [0, 1])
            self.assertEqual(scheduled(machine, (0, [1, 5]), schedule), [0])
            self.assertEqual(scheduled(machine, (0, [0, 5]), schedule), [])

    def test_negative_integers(self):
        stuck = (0, [0, 0, 0, 0])
        for schedule in [[-1], [0, -1], [-4, 0], [0, 0, 0, -10 ** 30], [1, 2, -3, 4]]:
            for situation in [self.start, stuck]:
                with self.assertRaises(OutOfRange):
                    scheduled(MACHINE, situation, schedule)

    def test_what_is_made(self):
        made = [(machine, maker, maker.situation(machine)) for machine, maker in machines(150)]
        for program, (_, maker) in zip(programs(40) + [full_program()], machines(41)):
            machine = compile_program(program)
            made.append((machine, maker, start_with(machine, 3)))
        for machine, maker, situation in made:
            schedule = [maker.roll(50) for _ in range(15)]
            before = copy.deepcopy((machine, situation, schedule))
            run = scheduled(machine, situation, schedule)
            wanted, now = [], situation
            for choice in schedule:
                possible = [at for at, move in enumerate(machine[4]) if moved(machine, now, move)]
                if not possible:
                    break
                wanted.append(possible[choice % len(possible)])
                now = moved(machine, now, machine[4][wanted[-1]])
            self.assertEqual(run, wanted)
            self.assertEqual(follow(machine, situation, run)[-1], now)
            self.assertEqual((machine, situation, schedule), before)
            new_lists(self, (run, scheduled(machine, situation, schedule)), machine, schedule)

    def test_a_list_even_if_nothing_is_taken(self):
        schedule = []
        run = scheduled(MACHINE, self.start, schedule)
        self.assertIsNot(run, schedule)
        run.append(1)
        self.assertEqual(scheduled(MACHINE, self.start, schedule), [])
