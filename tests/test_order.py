"""Promise 23: covering, the least ones, and being above a basis."""

import copy
import itertools
import unittest

from legion.order import covers, is_above, least_ones, some_least_ones
from tests.makers import Roller
from tests.samples import new_lists, spoil
from tests.slowly import least_by_words

ALL_SMALL = [
    (state, list(counts)) for state in range(2) for counts in itertools.product(range(3), repeat=2)
]


def rolled(roller, many, places=3, most=4, states=2):
    """So many situations."""
    return [
        (roller.roll(states), [roller.roll(most) for _ in range(places)]) for _ in range(many)
    ]


class Covers(unittest.TestCase):
    def test_by_hand(self):
        for first, second, wanted in [
            ((0, [0]), (0, [0]), True), ((0, [1]), (0, [0]), True), ((0, [0]), (0, [1]), False),
            ((0, [5]), (1, [0]), False), ((1, [5]), (0, [0]), False), ((1, [5]), (1, [5]), True),
            ((0, [2, 0]), (0, [1, 1]), False), ((0, [1, 1]), (0, [2, 0]), False),
            ((0, [2, 1]), (0, [1, 1]), True), ((0, [1, 2]), (0, [1, 1]), True),
            ((0, [9, 9, 0]), (0, [0, 0, 1]), False), ((0, [0, 9, 9]), (0, [1, 0, 0]), False),
            ((63, [0] * 96), (63, [0] * 96), True), ((63, [0] * 96), (63, [0] * 95 + [1]), False),
            ((0, [10 ** 20]), (0, [10 ** 20 - 1]), True),
        ]:
            self.assertIs(covers(first, second), wanted)

    def test_all_small_ones(self):
        for first in ALL_SMALL:
            for second in ALL_SMALL:
                wanted = (
                    first[0] == second[0] and first[1][0] >= second[1][0]
                    and first[1][1] >= second[1][1]
                )
                self.assertIs(covers(first, second), wanted)
                self.assertIs(is_above(first, [second]), wanted)


class LeastOnes(unittest.TestCase):
    def check(self, situations, wanted):
        self.assertEqual(least_ones(situations), wanted)

    def test_none_and_one(self):
        self.check([], [])
        self.check([(3, [0, 2])], [(3, [0, 2])])

    def test_equal_ones(self):
        self.check([(0, [1])] * 3, [(0, [1])])
        self.check([(0, [1, 0]), (0, [0, 1]), (0, [1, 0]), (0, [0, 1])], [(0, [0, 1]), (0, [1, 0])])
        self.check([(1, [2]), (0, [2]), (1, [2]), (1, [3]), (0, [2])], [(0, [2]), (1, [2])])

    def test_covered_ones(self):
        self.check([(0, [2, 2]), (0, [1, 1])], [(0, [1, 1])])
        self.check([(0, [1, 1]), (0, [2, 2])], [(0, [1, 1])])
        self.check([(0, [0, 5]), (0, [1, 4]), (0, [2, 4]), (0, [1, 5])], [(0, [0, 5]), (0, [1, 4])])
        self.check([(0, [0, 0]), (0, [1, 0]), (0, [0, 1]), (1, [1, 1])], [(0, [0, 0]), (1, [1, 1])])

    def test_states_stand_apart(self):
        self.check([(2, [0]), (1, [1]), (0, [2])], [(0, [2]), (1, [1]), (2, [0])])
        self.check([(1, [0, 1]), (0, [0, 1]), (1, [0, 0])], [(0, [0, 1]), (1, [0, 0])])

    def test_order(self):
        # Numbers are compared, not texts, and the first count that differs decides.
        self.check(
            [(10, [9, 0]), (9, [10, 0]), (9, [9, 1]), (9, [0, 10]), (9, [2, 9])],
            [(9, [0, 10]), (9, [2, 9]), (9, [9, 1]), (9, [10, 0]), (10, [9, 0])],
        )

    def test_lists_of_small_ones(self):
        for size in [2, 3]:
            for situations in itertools.product(ALL_SMALL[:9] + ALL_SMALL[13:16], repeat=size):
                self.check(list(situations), least_by_words(list(situations)))

    def test_what_is_made(self):
        roller = Roller(23)
        for _ in range(300):
            situations = rolled(roller, roller.roll(30), places=1 + roller.roll(4))
            before = copy.deepcopy(situations)
            least = least_ones(situations)
            self.assertEqual(least, least_by_words(situations))
            self.assertEqual(situations, before)
            self.assertEqual(least_ones(least), least)
            self.assertEqual(least_ones(list(reversed(situations))), least)
            for one in situations:
                self.assertIs(is_above(one, least), True)
            for one in rolled(roller, 5, places=len(situations[0][1]) if situations else 2):
                self.assertIs(is_above(one, least), is_above(one, situations))

    def test_new_lists(self):
        roller = Roller(5)
        counts = [1, 2]
        for situations in [
            [(0, counts), (0, counts)], [(0, counts), (1, counts)], [(0, counts), (1, [0, 0])],
            rolled(roller, 20), [],
        ]:
            before = copy.deepcopy(situations)
            first, second = least_ones(situations), least_ones(situations)
            new_lists(self, (first, second), situations)
            spoil(first)
            self.assertEqual(situations, before)
            self.assertEqual(least_ones(situations), second)

    def test_only_some_of_them(self):
        roller = Roller(29)
        for _ in range(100):
            situations = rolled(roller, 30)
            least = least_ones(situations)
            for most in range(30):
                some = some_least_ones(situations, most)
                if len(least) <= most:
                    self.assertEqual(sorted(some), least)
                else:
                    self.assertEqual(len(some), most + 1)
                    for one in some:
                        self.assertIn(one, least)

    def test_kinds_of_values(self):
        least = least_ones([(0, [1]), (1, [0])])
        self.assertIs(type(least), list)
        for one in least:
            self.assertIs(type(one), tuple)
            self.assertIs(type(one[1]), list)

    def test_many(self):
        roller = Roller(7)
        situations = rolled(roller, 4000, places=6, most=6, states=8)
        least = least_ones(situations)
        self.assertEqual(least_ones(least + situations), least)
        for one in situations:
            self.assertTrue(is_above(one, least))


class IsAbove(unittest.TestCase):
    def test_by_hand(self):
        basis = [(0, [0, 2]), (0, [1, 1]), (2, [0, 0])]
        for situation, wanted in [
            ((0, [0, 0]), False), ((0, [0, 1]), False), ((0, [0, 2]), True), ((0, [1, 0]), False),
            ((0, [1, 1]), True), ((0, [9, 0]), False), ((0, [9, 9]), True), ((1, [9, 9]), False),
            ((2, [0, 0]), True), ((2, [0, 7]), True), ((3, [9, 9]), False),
        ]:
            self.assertIs(is_above(situation, basis), wanted)
            self.assertIs(is_above(situation, []), False)
            self.assertIs(is_above(situation, basis[::-1]), wanted)

    def test_a_list_that_is_no_basis(self):
        situations = [(0, [2, 2]), (0, [1, 1]), (0, [1, 1])]
        self.assertIs(is_above((0, [1, 1]), situations), True)
        self.assertIs(is_above((0, [1, 0]), situations), False)

    def test_arguments_are_not_changed(self):
        situation, basis = (0, [1, 1]), [(0, [2, 0]), (0, [0, 1])]
        is_above(situation, basis)
        covers(situation, basis[0])
        self.assertEqual((situation, basis), ((0, [1, 1]), [(0, [2, 0]), (0, [0, 1])]))
