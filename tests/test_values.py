"""Promises 6 and 7: what values and conditions are worth, and what fits a range."""

import copy
import unittest

from legion.program import crew_kind, fitted, holds, value_of
from tests.samples import nested, with_body


class Values(unittest.TestCase):
    def test_integers(self):
        for number in [-100, -99, -1, 0, 1, 99, 100, 12345]:
            self.assertEqual(value_of(number, {}), number)

    def test_names(self):
        values = {"x": 3, "y": -7}
        self.assertEqual(value_of("x", values), 3)
        self.assertEqual(value_of("y", values), -7)

    def test_signs(self):
        for left in range(-5, 6):
            for right in range(-5, 6):
                values = {"x": left, "y": right}
                self.assertEqual(value_of(("+", "x", "y"), values), left + right)
                self.assertEqual(value_of(("-", "x", "y"), values), left - right)
                self.assertEqual(value_of(("*", "x", "y"), values), left * right)

    def test_no_range(self):
        self.assertEqual(value_of(("*", 99, ("*", 99, -99)), {}), -970299)
        self.assertEqual(value_of(("-", -99, 99), {}), -198)

    def test_nested_on_both_sides(self):
        value = ("-", ("*", "x", ("+", "y", 1)), ("-", 2, ("-", "x", "y")))
        self.assertEqual(value_of(value, {"x": 5, "y": 3}), 20)

    def test_is_an_integer(self):
        self.assertIs(type(value_of(("+", "x", 1), {"x": 0})), int)

    def test_depth_and_beyond(self):
        for depth in [9, 10, 40]:
            left = nested(depth, lambda value: ("+", value, 1), 0)
            right = nested(depth, lambda value: ("-", 1, value), 0)
            self.assertEqual(value_of(left, {}), depth)
            self.assertEqual(value_of(right, {}), depth % 2)

    def test_values_unchanged(self):
        values = {"x": 5, "unused": 1}
        value_of(("+", "x", "x"), values)
        holds(("=", "x", "x"), values)
        self.assertEqual(values, {"x": 5, "unused": 1})


class Conditions(unittest.TestCase):
    def test_true_and_false(self):
        self.assertIs(holds(True, {}), True)
        self.assertIs(holds(False, {}), False)

    def test_comparisons(self):
        for left in [-2, -1, 0, 1, 2]:
            for right in [-2, -1, 0, 1, 2]:
                values = {"x": left, "y": right}
                self.assertIs(holds(("=", "x", "y"), values), left == right)
                self.assertIs(holds(("<", "x", "y"), values), left < right)
                self.assertIs(holds(("<=", "x", "y"), values), left <= right)

    def test_words(self):
        for left in [True, False]:
            self.assertIs(holds(("not", left), {}), not left)
            for right in [True, False]:
                self.assertIs(holds(("and", left, right), {}), left and right)
                self.assertIs(holds(("or", left, right), {}), left or right)

    def test_parts_that_are_tuples(self):
        yes = ("=", 1, 1)
        no = ("<", 1, 1)
        self.assertIs(holds(("and", yes, yes), {}), True)
        self.assertIs(holds(("and", yes, no), {}), False)
        self.assertIs(holds(("and", no, yes), {}), False)
        self.assertIs(holds(("or", no, yes), {}), True)
        self.assertIs(holds(("or", yes, no), {}), True)
        self.assertIs(holds(("or", no, no), {}), False)
        self.assertIs(holds(("not", no), {}), True)

    def test_values_within(self):
        condition = ("<", ("*", "x", "x"), ("+", "y", 1))
        self.assertIs(holds(condition, {"x": 3, "y": 8}), False)
        self.assertIs(holds(condition, {"x": 3, "y": 9}), True)

    def test_depth_and_beyond(self):
        for depth in [9, 10, 41]:
            condition = nested(depth, lambda inner: ("not", inner), True)
            self.assertIs(holds(condition, {}), depth % 2 == 0)


class Fitted(unittest.TestCase):
    def test_within(self):
        for number in [-3, -2, 0, 4]:
            self.assertEqual(fitted(("x", -3, 4, 0), number), number)

    def test_beside(self):
        self.assertEqual(fitted(("x", -3, 4, 0), 5), -3)
        self.assertEqual(fitted(("x", -3, 4, 0), -4), 4)
        self.assertEqual(fitted(("x", 2, 4, 2), 5), 2)
        self.assertEqual(fitted(("x", 2, 4, 2), 1), 4)
        self.assertEqual(fitted(("x", 2, 4, 2), 0), 3)

    def test_far_away(self):
        for least, greatest in [(-3, 4), (2, 4), (-9, -5), (0, 1), (-99, 99)]:
            size = greatest - least + 1
            for number in range(least, greatest + 1):
                for times in [-100000, -57, -2, 2, 57, 100000]:
                    variable = ("x", least, greatest, least)
                    self.assertEqual(fitted(variable, number + times * size), number)

    def test_one_value(self):
        for number in [-1000, -1, 0, 6, 7, 8, 1000]:
            self.assertEqual(fitted(("x", 7, 7, 7), number), 7)

    def test_first_does_not_matter(self):
        for first in [0, 1, 2]:
            self.assertEqual(fitted(("x", 0, 2, first), 3), 0)


class CrewKind(unittest.TestCase):
    def test_each_position(self):
        crew = ("c", None, [], [])
        others = [("d", 0, [], []), ("e", 9, [], []), ("f", 1, [], [])]
        for at in range(4):
            program = ([], [], [], others[:at] + [crew] + others[at:])
            self.assertEqual(crew_kind(program), at)

    def test_unchanged(self):
        program = with_body([("skip",)])
        before = copy.deepcopy(program)
        self.assertEqual(crew_kind(program), 0)
        self.assertEqual(program, before)
