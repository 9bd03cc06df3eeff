"""The floor, on which the least ones and the layers of promises 23 to 26 rest."""

import copy
import unittest

from legion.floor import Floor
from tests.makers import Roller
from tests.slowly import above, least_by_words


class Floors(unittest.TestCase):
    def test_by_hand(self):
        floor = Floor([(0, [0, 2]), (0, [1, 1]), (2, [0, 0])])
        for situation, wanted in [
            ((0, [0, 0]), False), ((0, [0, 1]), False), ((0, [0, 2]), True), ((0, [1, 0]), False),
            ((0, [1, 1]), True), ((0, [9, 0]), False), ((0, [9, 9]), True), ((1, [9, 9]), False),
            ((2, [0, 0]), True), ((2, [0, 7]), True), ((3, [9, 9]), False),
        ]:
            self.assertIs(floor.is_under(situation), wanted)
            self.assertIs(Floor([]).is_under(situation), False)

    def test_one_below_those_that_are_kept(self):
        floor = Floor([(0, [2, 2]), (0, [2, 0]), (0, [0, 3]), (1, [0, 1]), (1, [0, 0])])
        for situation, wanted in [
            ((0, [2, 0]), True), ((0, [2, 1]), True), ((0, [1, 2]), False), ((0, [0, 3]), True),
            ((1, [0, 0]), True), ((1, [1, 0]), True),
        ]:
            self.assertIs(floor.is_under(situation), wanted)

    def test_what_is_made(self):
        roller = Roller(31)
        for _ in range(400):
            places = 1 + roller.roll(5)
            made = [
                (roller.roll(2), [roller.roll(4) for _ in range(places)])
                for _ in range(roller.roll(25))
            ]
            kept = []
            floor = Floor([])
            # In any order: only what is not above the floor is kept.
            for situation in made:
                before = copy.deepcopy(situation)
                self.assertIs(floor.is_under(situation), above(situation, kept))
                if not above(situation, kept):
                    kept.append(situation)
                    floor.keep(situation)
                self.assertEqual(situation, before)
            ascending = Floor(least_by_words(made))
            for _ in range(20):
                situation = (roller.roll(3), [roller.roll(5) for _ in range(places)])
                self.assertIs(floor.is_under(situation), above(situation, made))
                self.assertIs(ascending.is_under(situation), above(situation, made))

    def test_lists_stay_apart(self):
        counts = [1, 1]
        floor = Floor([(0, counts)])
        counts[0] = 0
        self.assertIs(floor.is_under((0, [0, 1])), False)
        self.assertIs(floor.is_under((0, [1, 1])), True)
