"""Promises 27 and 28: certificates, and the least crew of a list. Promise 1 for certificates."""

import copy
import unittest

from legion.back import layers, predecessors
from legion.certificate import is_certificate, least_crew
from legion.machine import compile_program
from legion.order import is_above, least_ones
from legion.runs import follow, scheduled, start_with
from tests.makers import machines, programs
from tests.slowly import is_certificate_by_words, least_run, with_threads

# Threads go from place 2 to place 1 to place 0.
DOWN = (1, 3, (0, [0, 0, 0]), 2, [(0, 1, 0, 0, None, []), (0, 2, 0, 1, None, [])])
PAIR = [(0, [2, 0, 0])]
LAST = [
    (0, [0, 0, 2]), (0, [0, 1, 1]), (0, [0, 2, 0]), (0, [1, 0, 1]), (0, [1, 1, 0]), (0, [2, 0, 0]),
]


def changed(situation, place, change):
    """A situation with a count that is raised or lessened."""
    counts = list(situation[1])
    counts[place] += change
    return (situation[0], counts)


def changes(chosen):
    """The list with each element left out, and with each count raised or lessened by one."""
    found = []
    for at, one in enumerate(chosen):
        found.append(chosen[:at] + chosen[at + 1:])
        for place in range(len(one[1])):
            for change in [1, -1]:
                other = changed(one, place, change)
                if min(other[1]) >= 0:
                    found.append(chosen[:at] + [other] + chosen[at + 1:])
    return found


class ByHand(unittest.TestCase):
    def check(self, machine, bad, chosen, wanted):
        self.assertIs(is_certificate(machine, bad, chosen), wanted)

    def test_last_layer(self):
        self.assertEqual(layers(DOWN, PAIR, fuel=9)[-1], LAST)
        self.check(DOWN, PAIR, LAST, True)

    def test_other_certificates(self):
        # These lists also have elements from which no run leads to a bad situation.
        self.check(DOWN, PAIR, [(0, [0, 0, 1]), (0, [0, 1, 0]), (0, [1, 0, 0])], True)
        self.check(DOWN, PAIR, [(0, [0, 0, 0])], True)

    def test_an_element_left_out(self):
        for at in range(6):
            self.check(DOWN, PAIR, LAST[:at] + LAST[at + 1:], False)

    def test_a_count_raised(self):
        self.check(DOWN, PAIR, [changed(LAST[0], 2, 1)] + LAST[1:], False)
        self.check(DOWN, PAIR, LAST[:5] + [changed(LAST[5], 0, 1)], False)

    def test_a_count_lessened(self):
        # A single thread at place 2 is not what leads above these, but at place 0 it is.
        self.check(DOWN, PAIR, [changed(LAST[0], 2, -1)] + LAST[1:], True)
        self.check(DOWN, PAIR, LAST[:5] + [changed(LAST[5], 0, -1)], False)

    def test_a_bad_one_that_covers_none(self):
        self.check(DOWN, PAIR + [(0, [1, 0, 0])], LAST, False)
        self.check(DOWN, [(0, [1, 0, 0])] + PAIR, LAST, False)
        self.check(DOWN, PAIR + [(0, [1, 0, 1]), (0, [5, 5, 5])], LAST, True)

    def test_lists_that_are_no_basis(self):
        self.check(DOWN, PAIR, LAST[::-1], True)
        self.check(DOWN, PAIR, LAST + LAST, True)
        self.check(DOWN, PAIR, [(0, [3, 3, 3])] + LAST + [(0, [0, 0, 7])], True)
        self.check(DOWN, PAIR * 3, LAST, True)
        self.check(DOWN, PAIR, [(0, [3, 3, 3])] + LAST[1:] + [(0, [0, 0, 7])], False)

    def test_empty_lists(self):
        self.check(DOWN, [], [], True)
        self.check(DOWN, PAIR, [], False)
        self.check(DOWN, [], LAST, True)
        self.check(DOWN, [], LAST[1:], False)

    def test_more_than_is_needed(self):
        # An element that leads to nothing bad still needs its predecessors in the list.
        machine = (2, 2, (0, [0, 0]), 0, [(0, 0, 1, 1, None, [])])
        self.check(machine, [(0, [0, 1])], [(0, [0, 1])], True)
        self.check(machine, [(0, [0, 1])], [(0, [0, 1]), (1, [0, 1])], False)
        self.check(machine, [(0, [0, 1])], [(0, [0, 1]), (0, [1, 0]), (1, [0, 1])], True)

    def test_states_started_places_and_shifts(self):
        machine = (2, 3, (0, [1, 0, 0]), 1, [
            (0, 1, 1, 1, 2, []), (1, 2, 1, 2, None, [(1, 0)]), (1, 0, 0, 2, None, []),
        ])
        bad = [(1, [2, 0, 1])]
        last = layers(machine, bad, fuel=9)[-1]
        self.check(machine, bad, last, True)
        for at in range(len(last)):
            self.check(machine, bad, last[:at] + last[at + 1:], False)

    def test_long_lists(self):
        chain = (1, 2, (0, [0, 0]), 0, [(0, 1, 0, 0, None, [])])
        chosen = [(0, [count, 2500 - count]) for count in range(2501)]
        self.check(chain, [(0, [2500, 0])], chosen, True)
        self.check(chain, [(0, [2500, 0])], chosen[1:], False)

    def test_many_divisions(self):
        shifts = [(place, 0) for place in range(2, 19)]
        machine = (1, 20, (0, [0] * 20), 0, [(0, 1, 0, 1, None, shifts)])
        bad = [(0, [10 ** 20] + [0] * 19)]
        self.check(machine, bad, bad, False)
        self.check(machine, bad, bad + [(0, [0, 1] + [0] * 18)], True)


class AsItIsDefined(unittest.TestCase):
    def test_last_layers_and_their_changes(self):
        told = {True: 0, False: 0}
        for machine, maker in machines(120, seed=27):
            bad = [maker.situation(machine) for _ in range(1 + maker.roll(3))]
            found = layers(machine, bad, fuel=12)
            if found is not None and len(found[-1]) <= 12:
                self.assertIs(is_certificate(machine, bad, found[-1]), True)
                for chosen in changes(found[-1]) + found[:-1]:
                    wanted = is_certificate_by_words(machine, bad, chosen, predecessors)
                    self.assertIs(is_certificate(machine, bad, chosen), wanted)
                    told[wanted] += 1
        self.assertGreater(told[True], 100)
        self.assertGreater(told[False], 500)

    def test_any_lists(self):
        for machine, maker in machines(300, seed=28):
            bad = [maker.situation(machine) for _ in range(maker.roll(3))]
            chosen = [maker.situation(machine, 2) for _ in range(maker.roll(6))]
            wanted = is_certificate_by_words(machine, bad, chosen, predecessors)
            self.assertIs(is_certificate(machine, bad, chosen), wanted)

    def test_what_it_accepts_is_true(self):
        tried = 0
        for machine, maker in machines(400, seed=29):
            bad = [maker.situation(machine) for _ in range(1 + maker.roll(2))]
            chosen = least_ones(bad + [maker.situation(machine, 2) for _ in range(4)])
            if machine[1] <= 4 and is_certificate(machine, bad, chosen):
                for situation in with_threads(machine, maker.roll(machine[0]), 3):
                    if not is_above(situation, chosen):
                        tried += 1
                        self.assertIsNone(least_run(machine, situation, bad, 5))
        self.assertGreater(tried, 100)

    def test_runs_never_get_into_a_certificate(self):
        for program in programs(40, seed=27):
            machine = compile_program(program)
            bad = [(0, [0] * (machine[1] - 1) + [1])]
            found = layers(machine, bad, fuel=6)
            if found is not None and least_crew(machine, found[-1]) is None:
                for crew in range(4):
                    start = start_with(machine, crew)
                    run = scheduled(machine, start, list(range(7, 47)))
                    for situation in follow(machine, start, run):
                        self.assertFalse(is_above(situation, found[-1]))

    def test_arguments_are_not_changed(self):
        for machine, maker in machines(60, seed=30):
            bad = [maker.situation(machine) for _ in range(3)]
            chosen = [maker.situation(machine) for _ in range(3)]
            before = copy.deepcopy((machine, bad, chosen))
            is_certificate(machine, bad, chosen)
            least_crew(machine, chosen)
            self.assertEqual((machine, bad, chosen), before)


class LeastCrew(unittest.TestCase):
    # The crew starts at place 1.
    machine = (2, 3, (1, [2, 1, 0]), 1, [])

    def test_one_element(self):
        for element, wanted in [
            ((1, [0, 0, 0]), 0), ((1, [2, 1, 0]), 0), ((1, [1, 2, 0]), 1), ((1, [2, 5, 0]), 4),
            ((1, [0, 0, 1]), None), ((1, [3, 9, 0]), None), ((0, [0, 0, 0]), None),
            ((1, [0, 10 ** 20, 0]), 10 ** 20 - 1),
        ]:
            self.assertEqual(least_crew(self.machine, [element]), wanted)

    def test_several_elements(self):
        self.assertEqual(least_crew(self.machine, [(1, [0, 9, 0]), (1, [2, 3, 0])]), 2)
        self.assertEqual(least_crew(self.machine, [(1, [2, 3, 0]), (1, [0, 9, 0])]), 2)
        self.assertEqual(least_crew(self.machine, [(0, [0, 0, 0]), (1, [0, 4, 0])]), 3)
        self.assertIsNone(least_crew(self.machine, [(0, [0, 0, 0]), (1, [0, 0, 1])]))

    def test_empty_list(self):
        self.assertIsNone(least_crew(self.machine, []))

    def test_what_is_made(self):
        for machine, maker in machines(300, seed=28):
            chosen = [maker.situation(machine, 6) for _ in range(maker.roll(5))]
            fits = [n for n in range(9) if is_above(start_with(machine, n), chosen)]
            self.assertEqual(least_crew(machine, chosen), fits[0] if fits else None)
