"""Promises 25 and 26: the layers of bad situations, and what they cost."""

import copy
import itertools
import unittest

from legion.back import layers, predecessors
from legion.errors import OutOfRange
from legion.machine import compile_program
from legion.order import is_above, least_ones
from legion.runs import start_with
from tests.makers import machines, programs
from tests.samples import new_lists, spoil
from tests.slowly import layers_by_words, least_run, predecessors_by_words, with_threads

# Threads go from place 2 to place 1 to place 0.
DOWN = (1, 3, (0, [0, 0, 0]), 2, [(0, 1, 0, 0, None, []), (0, 2, 0, 1, None, [])])
# A move changes the shared state and starts a thread, another one shifts.
MIXED = (2, 3, (0, [1, 0, 0]), 1, [
    (0, 1, 1, 1, 2, []),
    (1, 2, 1, 2, None, [(1, 0)]),
    (1, 0, 0, 2, None, []),
])


def single(place, places):
    """The counts with one thread."""
    return [int(at == place) for at in range(places)]


def everywhere(many, places):
    """The moves with which a thread may go from each place to each other one."""
    return [
        (0, first, 0, second, None, [])
        for first in range(places) for second in range(places) if first != second
    ]


class ByHand(unittest.TestCase):
    def test_one_thread(self):
        self.assertEqual(layers(DOWN, [(0, [1, 0, 0])], fuel=9), [
            [(0, [1, 0, 0])],
            [(0, [0, 1, 0]), (0, [1, 0, 0])],
            [(0, [0, 0, 1]), (0, [0, 1, 0]), (0, [1, 0, 0])],
        ])

    def test_two_threads(self):
        self.assertEqual(layers(DOWN, [(0, [2, 0, 0])], fuel=9), [
            [(0, [2, 0, 0])],
            [(0, [1, 1, 0]), (0, [2, 0, 0])],
            [(0, [0, 2, 0]), (0, [1, 0, 1]), (0, [1, 1, 0]), (0, [2, 0, 0])],
            [(0, [0, 1, 1]), (0, [0, 2, 0]), (0, [1, 0, 1]), (0, [1, 1, 0]), (0, [2, 0, 0])],
            [(0, [0, 0, 2]), (0, [0, 1, 1]), (0, [0, 2, 0]), (0, [1, 0, 1]), (0, [1, 1, 0]),
             (0, [2, 0, 0])],
        ])

    def test_states_started_places_and_shifts(self):
        self.assertEqual(layers(MIXED, [(1, [2, 0, 1])], fuel=9), [
            [(1, [2, 0, 1])],
            [(0, [2, 1, 0]), (1, [0, 2, 1]), (1, [1, 1, 1]), (1, [2, 0, 1])],
            [(0, [0, 2, 0]), (0, [1, 1, 0]), (1, [0, 2, 1]), (1, [1, 1, 1]), (1, [2, 0, 1]),
             (1, [3, 1, 0])],
            [(0, [0, 2, 0]), (0, [1, 1, 0]), (1, [0, 2, 1]), (1, [1, 1, 1]), (1, [1, 2, 0]),
             (1, [2, 0, 1]), (1, [2, 1, 0])],
        ])

    def test_elements_that_a_later_layer_has_not(self):
        machine = (2, 2, (0, [0, 0]), 0, [(0, 0, 1, 0, 1, []), (1, 1, 0, 0, None, [])])
        self.assertEqual(layers(machine, [(0, [5, 1]), (1, [1, 1])], fuel=9), [
            [(0, [5, 1]), (1, [1, 1])],
            [(0, [1, 0]), (1, [1, 1])],
            [(0, [1, 0]), (1, [0, 1])],
        ])

    def test_bad_situations_that_are_no_basis(self):
        for bad in [
            [(0, [2, 0, 0]), (0, [1, 0, 0])], [(0, [1, 0, 0])] * 2,
            [(0, [1, 1, 1]), (0, [1, 0, 0]), (0, [9, 9, 9])],
        ]:
            self.assertEqual(layers(DOWN, bad, fuel=9), layers(DOWN, [(0, [1, 0, 0])], fuel=9))

    def test_no_bad_situations(self):
        for fuel in [1, 2, 10 ** 20]:
            self.assertEqual(layers(DOWN, [], fuel=fuel), [[]])
        self.assertIsNone(layers(DOWN, [], fuel=0))

    def test_no_moves(self):
        machine = (2, 2, (0, [1, 1]), 0, [])
        bad = [(1, [0, 1]), (0, [2, 0]), (1, [1, 1])]
        self.assertEqual(layers(machine, bad, fuel=1), [[(0, [2, 0]), (1, [0, 1])]])
        self.assertIsNone(layers(machine, bad, fuel=0))

    def test_all_situations_are_bad(self):
        self.assertEqual(layers(DOWN, [(0, [0, 0, 0])], fuel=1), [[(0, [0, 0, 0])]])


class Fuel(unittest.TestCase):
    def test_just_enough(self):
        for bad, last in [
            ([(0, [0, 0, 1])], 0), ([(0, [0, 1, 0])], 1), ([(0, [1, 0, 0])], 2),
            ([(0, [2, 0, 0])], 4), ([(0, [5, 0, 0])], 10), ([(0, [0, 7, 0])], 7),
        ]:
            enough = layers(DOWN, bad, fuel=last + 1)
            self.assertEqual(len(enough), last + 1)
            for more in [last + 2, 100, 10 ** 20]:
                self.assertEqual(layers(DOWN, bad, fuel=more), enough)
            for fewer in range(last + 1):
                self.assertIsNone(layers(DOWN, bad, fuel=fewer))

    def test_negative(self):
        for fuel in [-1, -2, -10 ** 20]:
            for bad in [[], [(0, [1, 0, 0])], [(0, [1, 0, 0])] * 3000]:
                with self.assertRaises(OutOfRange):
                    layers(DOWN, bad, fuel=fuel)

    def test_by_keyword_only(self):
        with self.assertRaises(TypeError):
            layers(DOWN, [], 5)
        with self.assertRaises(TypeError):
            layers(DOWN, [])

    def test_late(self):
        found = layers(DOWN, [(0, [40, 0, 0])], fuel=81)
        self.assertEqual(len(found), 81)
        self.assertIsNone(layers(DOWN, [(0, [40, 0, 0])], fuel=80))
        self.assertEqual(len(found[-1]), 861)
        chain = (1, 2, (0, [0, 0]), 0, [(0, 1, 0, 0, None, [])])
        found = layers(chain, [(0, [700, 0])], fuel=701)
        for at, layer in enumerate(found):
            self.assertEqual(layer, [(0, [count, 700 - count]) for count in range(700 - at, 701)])
        self.assertEqual(len(found), 701)
        self.assertIsNone(layers(chain, [(0, [700, 0])], fuel=700))

    def test_late_in_many_states(self):
        # The shared state counts, and a thread is needed for each time it has counted on.
        moves = [(at, 1, (at + 1) % 64, 0, None, []) for at in range(64)]
        machine = (64, 2, (0, [0, 0]), 1, moves)
        found = layers(machine, [(63, [9, 0])], fuel=73)
        self.assertEqual(len(found), 73)
        self.assertIsNone(layers(machine, [(63, [9, 0])], fuel=72))
        for at, layer in enumerate(found):
            self.assertEqual(layer, sorted(
                ((63 - back) % 64, [max(9 - back, 0), back]) for back in range(at + 1)
            ))


class MostElements(unittest.TestCase):
    def test_layer_0(self):
        machine = (1, 2, (0, [0, 0]), 0, [])
        for many, fits in [(1999, True), (2000, True), (2001, False), (2500, False)]:
            bad = [(0, [count, many - 1 - count]) for count in range(many)]
            self.assertEqual(layers(machine, bad, fuel=9), [bad] if fits else None)

    def test_layer_0_counts_the_least_ones(self):
        machine = (1, 2, (0, [0, 0]), 0, [])
        bad = [(0, [count, 5]) for count in range(3000)]
        self.assertEqual(layers(machine, bad, fuel=1), [[(0, [0, 5])]])

    def test_only_layer_0_is_too_long(self):
        machine = (1, 3, (0, [0, 0, 0]), 0, [(0, 2, 0, 2, 2, [])])
        for many in [2000, 2001]:
            # One thread at place 2 soon makes as many as are needed.
            bad = [(0, [count, many - 2 - count, 2]) for count in range(many - 1)]
            bad.append((0, [0, 0, 3]))
            found = layers(machine, bad, fuel=9)
            if many == 2001:
                self.assertIsNone(found)
            else:
                self.assertEqual([len(layer) for layer in found], [2000, 2000, 1])

    def test_last_layer_of_one_division(self):
        machine = (1, 2, (0, [0, 0]), 0, [(0, 1, 0, 1, None, [(1, 0)])])
        found = layers(machine, [(0, [1999, 0])], fuel=9)
        self.assertEqual([len(layer) for layer in found], [1, 2000])
        self.assertEqual(found[1][0], (0, [0, 2000]))
        self.assertEqual(found[1][1998:], [(0, [1998, 2]), (0, [1999, 0])])
        self.assertIsNone(layers(machine, [(0, [2000, 0])], fuel=9))

    def test_more_divisions_than_could_ever_be_listed(self):
        shifts = [(place, 0) for place in range(2, 19)]
        machine = (1, 20, (0, [0] * 20), 0, [(0, 1, 0, 1, None, shifts)])
        for count in [60, 10 ** 9, 10 ** 20]:
            self.assertIsNone(layers(machine, [(0, [count] + [0] * 19)], fuel=9))

    def test_many_divisions_of_which_few_are_least(self):
        # A thread at one of the places from 2 on is bad already.
        shifts = [(place, 0) for place in range(2, 19)]
        machine = (1, 20, (0, [0] * 20), 0, [(0, 1, 0, 1, None, shifts)])
        bad = [(0, single(place, 20)) for place in range(2, 19)]
        for count in [60, 10 ** 20]:
            found = layers(machine, bad + [(0, [count] + [0] * 19)], fuel=9)
            self.assertEqual(len(found), 1)
            self.assertEqual(len(found[0]), 18)

    def test_last_layer(self):
        chain = (1, 2, (0, [0, 0]), 0, [(0, 1, 0, 0, None, [])])
        found = layers(chain, [(0, [1999, 0])], fuel=2000)
        self.assertEqual([len(layer) for layer in found], list(range(1, 2001)))
        self.assertIsNone(layers(chain, [(0, [2000, 0])], fuel=2001))
        self.assertIsNone(layers(chain, [(0, [2000, 0])], fuel=10 ** 9))

    def test_pairs_of_threads(self):
        for places, fits in [(62, True), (63, False)]:
            machine = (1, places, (0, [0] * places), 0, everywhere(2, places))
            found = layers(machine, [(0, [2] + [0] * (places - 1))], fuel=9)
            if fits:
                self.assertEqual([len(layer) for layer in found], [1, 62, 1953])
                self.assertEqual(found[-1], sorted(
                    (0, [pair.count(at) for at in range(places)])
                    for pair in itertools.combinations_with_replacement(range(places), 2)
                ))
            else:
                self.assertIsNone(found)

    def test_only_a_layer_between_is_too_long(self):
        # Layer 1 has the divisions; in layer 2 all of them are above one thread at place 2.
        moves = [
            (0, 2, 1, 2, None, [(1, 0)]), (3, 2, 2, 2, None, []), (0, 2, 3, 2, None, []),
        ]
        machine = (4, 3, (0, [0, 0, 0]), 2, moves)
        bad = [(1, [1996, 0, 1]), (2, [0, 0, 1])]
        found = layers(machine, bad, fuel=9)
        self.assertEqual([len(layer) for layer in found], [2, 2000, 4])
        self.assertEqual(found[2], [
            (0, [0, 0, 1]), (1, [1996, 0, 1]), (2, [0, 0, 1]), (3, [0, 0, 1]),
        ])
        bad[0] = (1, [1997, 0, 1])
        self.assertIsNone(layers(machine, bad, fuel=9))


class AsTheyAreDefined(unittest.TestCase):
    def test_what_is_made(self):
        lengths = set()
        for machine, maker in machines(250, seed=25):
            bad = [maker.situation(machine) for _ in range(1 + maker.roll(3))]
            wanted = layers_by_words(machine, bad, 7, predecessors)
            found = layers(machine, bad, fuel=7)
            self.assertEqual(found, wanted)
            if found is not None:
                lengths.add(len(found))
                self.assertIsNone(layers(machine, bad, fuel=len(found) - 1))
                self.assertEqual(layers(machine, bad, fuel=len(found)), found)
        self.assertEqual(lengths, {1, 2, 3, 4, 5, 6, 7})

    def test_with_predecessors_by_words(self):
        for machine, maker in machines(100, seed=26):
            if machine[1] <= 4:
                bad = [maker.situation(machine, 2) for _ in range(1 + maker.roll(2))]
                wanted = layers_by_words(machine, bad, 3, predecessors_by_words)
                self.assertEqual(layers(machine, bad, fuel=3), wanted)

    def test_runs(self):
        # Above layer i exactly if a run of at most i moves leads above a bad one.
        for machine, maker in machines(120, seed=27):
            if machine[1] <= 4:
                bad = [maker.situation(machine, 3) for _ in range(1 + maker.roll(2))]
                found = layers(machine, bad, fuel=6)
                for situation in with_threads(machine, maker.roll(machine[0]), 3):
                    if found is not None:
                        run = least_run(machine, situation, bad, len(found) + 1)
                        for at, layer in enumerate(found):
                            short = run is not None and len(run) <= at
                            self.assertIs(is_above(situation, layer), short)
                        self.assertTrue(run is None or len(run) < len(found))

    def test_each_is_a_basis(self):
        for machine, maker in machines(100, seed=28):
            bad = [maker.situation(machine) for _ in range(3)]
            for layer in layers(machine, bad, fuel=10) or []:
                self.assertEqual(layer, least_ones(layer))

    def test_of_programs(self):
        for program in programs(60, seed=25):
            machine = compile_program(program)
            bad = [(state, single(machine[1] - 1, machine[1])) for state in range(machine[0])]
            found = layers(machine, bad, fuel=3)
            if found is not None:
                self.assertEqual(found, layers_by_words(machine, bad, 3, predecessors))


class Values(unittest.TestCase):
    def test_new_lists(self):
        for machine, maker in machines(80, seed=29):
            bad = [maker.situation(machine) for _ in range(3)]
            before = copy.deepcopy((machine, bad))
            first, second = layers(machine, bad, fuel=5), layers(machine, bad, fuel=5)
            new_lists(self, (first, second), machine, bad)
            spoil(first)
            self.assertEqual((machine, bad), before)
            self.assertEqual(layers(machine, bad, fuel=5), second)

    def test_kinds_of_values(self):
        found = layers(MIXED, [(1, [2, 0, 1])], fuel=9)
        self.assertIs(type(found), list)
        for layer in found:
            self.assertIs(type(layer), list)
            for one in layer:
                self.assertIs(type(one), tuple)
                self.assertIs(type(one[1]), list)

    def test_a_start_is_above_the_last_layer(self):
        last = layers(DOWN, [(0, [3, 0, 0])], fuel=99)[-1]
        self.assertEqual([is_above(start_with(DOWN, crew), last) for crew in range(5)],
                         [False, False, False, True, True])
