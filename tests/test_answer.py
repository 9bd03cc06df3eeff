"""Promises 29 and 30: answers and shortest runs. Promise 1 for answers."""

import copy
import unittest

from legion.answer import decide, is_never, shortest_run
from legion.back import layers
from legion.certificate import is_certificate, least_crew
from legion.errors import NotPossible, OutOfRange
from legion.machine import compile_program
from legion.order import is_above
from legion.runs import follow, start_with
from tests.makers import Roller, machines, programs
from tests.samples import new_lists, spoil
from tests.slowly import above, least_run, with_threads

# Threads go from place 2 to place 1 to place 0.
DOWN = (1, 3, (0, [0, 0, 0]), 2, [(0, 1, 0, 0, None, []), (0, 2, 0, 1, None, [])])
PAIR = [(0, [2, 0, 0])]

# Two ways of the same length from place 0 to place 3, and a longer one.
WAYS = (1, 4, (0, [0, 0, 0, 0]), 0, [
    (0, 2, 0, 3, None, []),
    (0, 0, 0, 2, None, []),
    (0, 1, 0, 2, None, []),
    (0, 0, 0, 1, None, []),
    (0, 1, 0, 3, None, []),
])

# A lock as shared state 1: a thread that waits for it can be woken only by another one.
LOCKED = (2, 4, (0, [0, 0, 0, 0]), 0, [
    (0, 0, 1, 1, None, []),
    (1, 1, 0, 2, None, []),
    (1, 0, 1, 3, None, []),
    (0, 2, 0, 2, None, [(3, 2)]),
])


def lone_machines(many, seed):
    """Pairs of a machine and bad situations as point 30 wants them."""
    for at in range(many):
        roller = Roller(seed * 1000003 + at)
        places = 1 + roller.roll(5)
        moves = []
        for _ in range(roller.roll(15)):
            move = (0, roller.roll(places), 0, roller.roll(places), None, [])
            if move not in moves:
                moves.append(move)
        counts = [roller.roll(2) for _ in range(places)]
        machine = (1, places, (0, counts), roller.roll(places), moves)
        bad = []
        left = 3
        for _ in range(roller.roll(4)):
            counts = [0] * places
            for _ in range(roller.roll(left + 1)):
                counts[roller.roll(places)] += 1
            left -= sum(counts)
            bad.append((0, counts))
        yield machine, bad


class Decide(unittest.TestCase):
    def check(self, machine, bad, wanted, fuel=100):
        self.assertEqual(decide(machine, bad, fuel=fuel), wanted)

    def test_possible(self):
        basis = layers(DOWN, PAIR, fuel=9)[-1]
        self.check(DOWN, PAIR, ("possible", 2, [1, 0, 1, 0], basis))
        # From [0, 0, 2] the run 1, 0 leads to [1, 0, 1], and 1, 1 to [0, 2, 0]: 0 comes first.
        self.check(DOWN, [(0, [0, 1, 0])], ("possible", 1, [1], [(0, [0, 0, 1]), (0, [0, 1, 0])]))

    def test_least_of_the_shortest_runs(self):
        answer = decide(WAYS, [(0, [0, 0, 0, 1])])
        self.assertEqual(answer[:3], ("possible", 1, [1, 0]))
        answer = decide(WAYS, [(0, [0, 0, 0, 2])])
        self.assertEqual(answer[:3], ("possible", 2, [1, 0, 1, 0]))
        answer = decide(WAYS, [(0, [0, 1, 0, 1]), (0, [1, 0, 1, 1])])
        self.assertEqual(answer[:3], ("possible", 2, [1, 0, 3]))

    def test_already_bad(self):
        self.check(DOWN, [(0, [0, 0, 3])], ("possible", 3, [], [(0, [0, 0, 3])]))
        self.check(DOWN, [(0, [0, 0, 0])], ("possible", 0, [], [(0, [0, 0, 0])]))

    def test_threads_that_are_there_at_the_start(self):
        for counts, crew in [([0, 0, 1], 1), ([1, 0, 0], 1), ([1, 1, 0], 0), ([0, 0, 5], 0)]:
            machine = (1, 3, (0, counts), 2, DOWN[4])
            answer = decide(machine, PAIR)
            self.assertEqual(answer[:2], ("possible", crew))
        self.assertEqual(decide((1, 3, (0, [1, 1, 0]), 2, DOWN[4]), PAIR)[2], [0])

    def test_never(self):
        never = [(1, [0, 2, 0, 0])]
        answer = decide(LOCKED, never)
        self.assertEqual(answer, ("never", layers(LOCKED, never, fuel=100)[-1]))
        self.assertTrue(is_certificate(LOCKED, never, answer[1]))
        answer = decide((2, 1, (0, [0]), 0, []), [(1, [0])])
        self.assertEqual(answer, ("never", [(1, [0])]))
        # No thread of the crew ever gets to place 0.
        machine = (1, 3, (0, [1, 0, 0]), 2, [])
        self.check(machine, PAIR, ("never", PAIR))

    def test_empty_list(self):
        for machine in [DOWN, WAYS, LOCKED]:
            self.assertEqual(decide(machine, []), ("never", []))
            for fuel in [1, 2, 10 ** 20]:
                self.check(machine, [], ("never", []), fuel)
            self.check(machine, [], ("unknown",), 0)

    def test_unknown(self):
        for fuel in range(5):
            self.check(DOWN, PAIR, ("unknown",), fuel)
        self.assertEqual(decide(DOWN, PAIR, fuel=5)[0], "possible")
        bad = [(0, [count, 2000 - count, 0]) for count in range(2001)]
        self.check(DOWN, bad, ("unknown",), 10 ** 6)
        self.check(DOWN, bad + [(0, [3000, 3000, 0])], ("unknown",), 10 ** 6)
        self.assertIs(is_never(DOWN, bad, 10 ** 6), False)
        self.check(DOWN, [(0, [2000, 0, 0])], ("unknown",), 10 ** 6)

    def test_negative_fuel(self):
        for fuel in [-1, -100]:
            for bad in [[], PAIR]:
                with self.assertRaises(OutOfRange):
                    decide(DOWN, bad, fuel=fuel)

    def test_fuel_that_is_left_out(self):
        chain = (1, 2, (0, [0, 0]), 1, [(0, 1, 0, 0, None, [])])
        for count, known in [(98, True), (99, True), (100, False)]:
            answer = decide(chain, [(0, [count, 0])])
            self.assertEqual(answer[0], "possible" if known else "unknown")
            self.assertEqual(answer, decide(chain, [(0, [count, 0])], fuel=100))
        with self.assertRaises(TypeError):
            decide(DOWN, PAIR, 100)

    def test_late_and_long(self):
        chain = (1, 2, (0, [0, 0]), 1, [(0, 1, 0, 0, None, [])])
        answer = decide(chain, [(0, [1000, 0])], fuel=1001)
        self.assertEqual(answer[:3], ("possible", 1000, [0] * 1000))
        self.assertEqual(len(answer[3]), 1001)
        places = 62
        moves = [(0, at + 1, 0, at, None, []) for at in range(places - 1)]
        machine = (1, places, (0, [0] * places), places - 1, moves)
        answer = decide(machine, [(0, [2] + [0] * 61)], fuel=123)
        down = list(range(places - 2, -1, -1))
        self.assertEqual(answer[:3], ("possible", 2, down + down))
        self.assertEqual(decide(machine, [(0, [2] + [0] * 61)], fuel=122), ("unknown",))

    def test_what_is_made(self):
        told = {"never": 0, "possible": 0, "unknown": 0}
        for machine, maker in machines(500, seed=29):
            bad = [maker.situation(machine) for _ in range(maker.roll(4))]
            answer = decide(machine, bad, fuel=6)
            found = layers(machine, bad, fuel=6)
            told[answer[0]] += 1
            self.assertIs(is_never(machine, bad, 6), answer[0] == "never")
            if found is None:
                self.assertEqual(answer, ("unknown",))
                continue
            self.assertEqual(answer[-1], found[-1])
            crew = least_crew(machine, found[-1])
            if crew is None:
                self.assertEqual(answer, ("never", found[-1]))
            else:
                run = least_run(machine, start_with(machine, crew), bad, len(answer[2]))
                self.assertEqual(answer, ("possible", crew, run, found[-1]))
        self.assertGreater(min(told.values()), 30, told)

    def test_what_threads_can_do(self):
        for machine, maker in machines(200, seed=30):
            bad = [maker.situation(machine) for _ in range(1 + maker.roll(2))]
            answer = decide(machine, bad, fuel=20)
            self.assertIs(is_never(machine, bad, 20), answer[0] == "never")
            if answer[0] == "possible":
                reached = follow(machine, start_with(machine, answer[1]), answer[2])[-1]
                self.assertTrue(above(reached, bad))
            if answer[0] != "unknown":
                for crew in range(answer[1] if answer[0] == "possible" else 3):
                    self.assertIsNone(least_run(machine, start_with(machine, crew), bad, 5))

    def test_new_lists(self):
        for machine, maker in machines(150, seed=31):
            bad = [maker.situation(machine) for _ in range(2)]
            before = copy.deepcopy((machine, bad))
            first, second = decide(machine, bad, fuel=9), decide(machine, bad, fuel=9)
            new_lists(self, (first, second), machine, bad)
            spoil(first)
            self.assertEqual((machine, bad), before)
            self.assertEqual(decide(machine, bad, fuel=9), second)


class Small(unittest.TestCase):
    def test_never_unknown(self):
        told = {"never": 0, "possible": 0}
        for machine, bad in lone_machines(1500, 30):
            for fuel in [16, 17, 100]:
                answer = decide(machine, bad, fuel=fuel)
                self.assertEqual(answer, decide(machine, bad, fuel=16))
            told[answer[0]] += 1
        self.assertGreater(min(told.values()), 200, told)

    def test_the_longest_way(self):
        moves = [(0, at + 1, 0, at, None, []) for at in range(4)]
        machine = (1, 5, (0, [0] * 5), 4, moves)
        answer = decide(machine, [(0, [3, 0, 0, 0, 0])], fuel=16)
        self.assertEqual(answer[:3], ("possible", 3, [3, 2, 1, 0] * 3))


class ShortestRun(unittest.TestCase):
    found = layers(DOWN, PAIR, fuel=9)

    def test_by_hand(self):
        for counts, run in [
            ([2, 0, 0], []), ([3, 0, 0], []), ([9, 9, 9], []), ([1, 1, 0], [0]), ([0, 2, 0], [0, 0]),
            ([1, 0, 1], [1, 0]), ([1, 5, 1], [0]), ([0, 1, 1], [0, 1, 0]),
            ([0, 0, 2], [1, 0, 1, 0]), ([0, 0, 7], [1, 0, 1, 0]),
        ]:
            self.assertEqual(shortest_run(DOWN, self.found, (0, counts)), run)

    def test_beginnings(self):
        for counts, needed in [
            ([2, 0, 0], 0), ([1, 1, 0], 1), ([0, 2, 0], 2), ([1, 0, 1], 2), ([0, 1, 1], 3),
            ([0, 0, 2], 4),
        ]:
            whole = shortest_run(DOWN, self.found, (0, counts))
            for length in range(1, 6):
                if needed < length:
                    run = shortest_run(DOWN, self.found[:length], (0, counts))
                    self.assertEqual(run, whole)
                else:
                    with self.assertRaises(NotPossible):
                        shortest_run(DOWN, self.found[:length], (0, counts))

    def test_not_above(self):
        for counts in [[0, 0, 0], [1, 0, 0], [0, 1, 0], [0, 0, 1]]:
            with self.assertRaises(NotPossible):
                shortest_run(DOWN, self.found, (0, counts))
        for found in [[[]], [[(1, [0, 0, 0])]]]:
            with self.assertRaises(NotPossible):
                shortest_run((2, *DOWN[1:]), found, (0, [9, 9, 9]))

    def test_least_one(self):
        found = layers(WAYS, [(0, [0, 0, 0, 1])], fuel=9)
        for counts, run in [
            ([1, 0, 0, 0], [1, 0]), ([0, 1, 0, 0], [4]), ([0, 0, 1, 0], [0]), ([1, 1, 0, 0], [4]),
            ([0, 1, 1, 0], [0]), ([1, 0, 1, 0], [0]),
        ]:
            self.assertEqual(shortest_run(WAYS, found, (0, counts)), run)

    def test_elements_that_a_later_layer_has_not(self):
        # Layer 1 has not the bad situation with five threads, because it is above another one.
        machine = (2, 2, (0, [0, 0]), 0, [(0, 0, 1, 0, 1, []), (1, 1, 0, 0, None, [])])
        found = layers(machine, [(0, [5, 1]), (1, [1, 1])], fuel=9)
        self.assertNotIn((0, [5, 1]), found[1])
        for length in [1, 2, 3]:
            self.assertEqual(shortest_run(machine, found[:length], (0, [5, 1])), [])
        self.assertEqual(shortest_run(machine, found, (0, [4, 1])), [0])

    def test_what_is_made(self):
        lengths = set()
        for machine, maker in machines(200, seed=32):
            bad = [maker.situation(machine) for _ in range(1 + maker.roll(2))]
            found = layers(machine, bad, fuel=8)
            if found is None:
                continue
            length = 1 + maker.roll(len(found))
            for situation in with_threads(machine, maker.roll(machine[0]), 2):
                if is_above(situation, found[length - 1]):
                    run = shortest_run(machine, found[:length], situation)
                    self.assertEqual(run, least_run(machine, situation, bad, 8))
                    lengths.add(len(run))
                else:
                    with self.assertRaises(NotPossible):
                        shortest_run(machine, found[:length], situation)
        self.assertTrue(lengths >= {0, 1, 2, 3}, lengths)

    def test_of_programs(self):
        for program in programs(60, seed=29):
            machine = compile_program(program)
            bad = [(state, [0] * (machine[1] - 1) + [1]) for state in range(machine[0])]
            found = layers(machine, bad, fuel=12)
            for crew in range(3):
                start = start_with(machine, crew)
                if found is not None and is_above(start, found[-1]):
                    run = shortest_run(machine, found, start)
                    self.assertTrue(above(follow(machine, start, run)[-1], bad))
                    self.assertFalse(is_above(start, found[len(run) - 1]) and run)

    def test_new_lists(self):
        for machine, maker in machines(80, seed=33):
            bad = [maker.situation(machine) for _ in range(2)]
            found = layers(machine, bad, fuel=8)
            situation = bad[0]
            if found is not None:
                before = copy.deepcopy((machine, found, situation))
                run = shortest_run(machine, found, situation)
                run.append(5)
                self.assertEqual((machine, found, situation), before)
                self.assertEqual(shortest_run(machine, found, situation), [])
