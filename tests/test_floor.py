"""The floor, on which the least ones and the layers of promises 23 to 26 rest."""

import copy
import unittest

from legion.floor import Floor, packed, unpacked
from tests.makers import Roller
from tests.slowly import above, least_by_words


def floor_of(situations):
    """A floor with the situations."""
    return Floor([packed(situation) for situation in situations])


class Packed(unittest.TestCase):
    def test_by_hand(self):
        for situation, form in [
            ((3, [0, 2, 0, 1]), (3, ((1, 2), (3, 1)))), ((0, [0, 0]), (0, ())),
            ((1, [10 ** 20]), (1, ((0, 10 ** 20),))),
        ]:
            self.assertEqual(packed(situation), form)
            self.assertEqual(unpacked(form, len(situation[1])), situation)


class Floors(unittest.TestCase):
    def check(self, floor, situation, wanted):
        self.assertIs(floor.is_under(packed(situation)), wanted)

    def test_by_hand(self):
        floor = floor_of([(0, [0, 2]), (0, [1, 1]), (2, [0, 0])])
        for situation, wanted in [
            ((0, [0, 0]), False), ((0, [0, 1]), False), ((0, [0, 2]), True), ((0, [1, 0]), False),
            ((0, [1, 1]), True), ((0, [9, 0]), False), ((0, [9, 9]), True), ((1, [9, 9]), False),
            ((2, [0, 0]), True), ((2, [0, 7]), True), ((3, [9, 9]), False),
        ]:
            self.check(floor, situation, wanted)
            self.check(Floor([]), situation, False)

    def test_one_below_those_that_are_kept(self):
        floor = floor_of([(0, [2, 2]), (0, [2, 0]), (0, [0, 3]), (1, [0, 1]), (1, [0, 0])])
        for situation, wanted in [
            ((0, [2, 0]), True), ((0, [2, 1]), True), ((0, [1, 2]), False), ((0, [0, 3]), True),
            ((1, [0, 0]), True), ((1, [1, 0]), True),
        ]:
            self.check(floor, situation, wanted)

    def test_what_is_made(self):
        roller = Roller(31)
        for _ in range(400):
            places = 1 + roller.roll(5)
            made = [
                (roller.roll(2), [roller.roll(4) for _ in range(places)])
                for _ in range(roller.roll(25))
            ]
            kept = []
            floor = Floor([])
            # In any order: only what is not above the floor is kept.
            for situation in made:
                before = copy.deepcopy(situation)
                self.check(floor, situation, above(situation, kept))
                if not above(situation, kept):
                    kept.append(situation)
                    floor.keep(packed(situation))
                self.assertEqual(situation, before)
            ascending = floor_of(least_by_words(made))
            for _ in range(20):
                situation = (roller.roll(3), [roller.roll(5) for _ in range(places)])
                self.check(floor, situation, above(situation, made))
                self.check(ascending, situation, above(situation, made))
