"""Promises 31 to 34: wide situations, the cover, and closed lists."""

import copy
import itertools
import unittest

from legion.ahead import explore, is_closed, wide_after, wide_covers
from legion.answer import decide
from legion.errors import NotPossible, OutOfRange
from legion.machine import compile_program
from legion.order import covers
from legion.runs import after, follow, is_possible, scheduled, start_with
from tests.makers import machines, programs
from tests.samples import new_lists, spoil
from tests.slowly import (
    cover_of,
    covered,
    explored_by_words,
    is_closed_by_words,
    wide_moved,
    with_threads,
)

MACHINE = (2, 3, (0, [1, 0, 0]), 1, [
    (0, 1, 1, 0, None, []),
    (1, 0, 0, 2, None, []),
    (0, 1, 0, 1, 2, []),
    (1, 2, 1, 2, 2, []),
    (0, 2, 0, 2, None, []),
])
SHIFTING = (1, 2, (0, [1, 0]), 0, [(0, 0, 0, 1, None, []), (0, 1, 0, 1, None, [(0, 1)])])


def without_shifts(many, seed):
    """Pairs of a machine without shifts and the roller that made it."""
    made = []
    for machine, maker in machines(many, seed):
        moves = []
        for move in machine[4]:
            if (*move[:5], []) not in moves:
                moves.append((*move[:5], []))
        made.append(((*machine[:4], moves), maker))
    return made


def rolled_wide(machine, maker, most=3):
    """A wide situation."""
    state, counts = maker.situation(machine, most)
    return (state, [None if maker.roll(3) == 0 else count for count in counts])


class WideCovers(unittest.TestCase):
    def test_by_hand(self):
        for first, second, wanted in [
            ((0, [None]), (0, [None]), True), ((0, [None]), (0, [7]), True),
            ((0, [7]), (0, [None]), False), ((0, [10 ** 20]), (0, [None]), False),
            ((0, [None]), (1, [0]), False), ((1, [None]), (0, [None]), False),
            ((0, [None, 1]), (0, [5, 1]), True), ((0, [None, 1]), (0, [5, 2]), False),
            ((0, [None, 1]), (0, [None, 1]), True), ((0, [None, 1]), (0, [None, None]), False),
            ((0, [1, None]), (0, [1, None]), True), ((0, [0, None]), (0, [1, 0]), False),
            ((0, [2, 3, None]), (0, [2, 3, 99]), True), ((0, [2, 3, None]), (0, [2, None, 0]), False),
            ((0, [0]), (0, [0]), True), ((0, [1]), (0, [0]), True), ((0, [0]), (0, [1]), False),
        ]:
            self.assertIs(wide_covers(first, second), wanted, (first, second))

    def test_all_small_ones(self):
        counts = [0, 1, 2, None]
        for first in itertools.product(counts, repeat=2):
            for second in itertools.product(counts, repeat=2):
                wanted = all(
                    many is None or few is not None and few <= many
                    for many, few in zip(first, second)
                )
                for state in [0, 1]:
                    found = wide_covers((0, list(first)), (state, list(second)))
                    self.assertIs(found, wanted and state == 0)

    def test_situations(self):
        for machine, maker in machines(100, seed=31):
            for _ in range(10):
                first, second = maker.situation(machine), maker.situation(machine)
                self.assertIs(wide_covers(first, second), covers(first, second))


class WideAfter(unittest.TestCase):
    def test_by_hand(self):
        for situation, move, wanted in [
            ((0, [1, None, 0]), 0, (1, [2, None, 0])),
            ((0, [1, 1, 0]), 0, (1, [2, 0, 0])),
            ((0, [None, 1, 0]), 0, (1, [None, 0, 0])),
            ((0, [None, None, None]), 0, (1, [None, None, None])),
            ((1, [1, 0, None]), 1, (0, [0, 0, None])),
            ((1, [None, 0, 3]), 1, (0, [None, 0, 4])),
            ((0, [0, 2, 1]), 2, (0, [0, 2, 2])),
            ((0, [0, None, 1]), 2, (0, [0, None, 2])),
            ((0, [0, None, None]), 2, (0, [0, None, None])),
            ((1, [0, 0, 1]), 3, (1, [0, 0, 2])),
            ((1, [0, 0, None]), 3, (1, [0, 0, None])),
            ((0, [None, 0, 1]), 4, (0, [None, 0, 1])),
        ]:
            self.assertEqual(wide_after(MACHINE, situation, move), wanted)

    def test_moves_that_do_not_exist(self):
        for move in [-1, -5, -6, 5, 6, 10 ** 30]:
            for situation in [(0, [None, None, None]), (1, [0, 0, 0])]:
                with self.assertRaises(OutOfRange):
                    wide_after(MACHINE, situation, move)

    def test_moves_that_are_not_possible(self):
        for situation, move in [
            ((1, [None, None, None]), 0), ((0, [None, 0, None]), 0), ((0, [None, None, None]), 1),
            ((1, [0, None, None]), 1), ((0, [5, 0, 5]), 2), ((1, [1, 1, 0]), 3),
        ]:
            with self.assertRaises(NotPossible):
                wide_after(MACHINE, situation, move)

    def test_what_is_made(self):
        for machine, maker in without_shifts(150, 31):
            for _ in range(15):
                wide, narrow = rolled_wide(machine, maker), maker.situation(machine)
                for at, move in enumerate(machine[4]):
                    before = copy.deepcopy((machine, wide))
                    wanted = wide_moved(wide, move)
                    if wanted is None:
                        with self.assertRaises(NotPossible):
                            wide_after(machine, wide, at)
                    else:
                        self.assertEqual(wide_after(machine, wide, at), wanted)
                    self.assertEqual((machine, wide), before)
                    if is_possible(machine, narrow, at):
                        found = wide_after(machine, narrow, at)
                        self.assertEqual(found, after(machine, narrow, at))

    def test_new_lists(self):
        for machine, maker in without_shifts(60, 32):
            wide = rolled_wide(machine, maker)
            for at, move in enumerate(machine[4]):
                if wide_moved(wide, move) is not None:
                    before = copy.deepcopy((machine, wide))
                    first, second = wide_after(machine, wide, at), wide_after(machine, wide, at)
                    new_lists(self, (first, second), machine, wide)
                    spoil(first)
                    self.assertEqual((machine, wide), before)
                    self.assertEqual(wide_after(machine, wide, at), second)


class Explore(unittest.TestCase):
    def test_by_hand(self):
        # Crew threads go to place 0 one at a time, and from there to place 2.
        self.assertEqual(explore(MACHINE, fuel=50), [(0, [1, None, None]), (1, [2, None, None])])
        empty = (2, 3, (1, [4, 5, 6]), 1, [])
        self.assertEqual(explore(empty, fuel=1), [(1, [4, None, 6])])

    def test_no_widening_without_growth(self):
        machine = (2, 2, (0, [1, 0]), 1, [(0, 0, 1, 0, None, []), (1, 0, 0, 0, None, [])])
        self.assertEqual(explore(machine, fuel=2), [(0, [1, None]), (1, [1, None])])
        self.assertIsNone(explore(machine, fuel=1))

    def test_no_widening_without_being_covered(self):
        # Each thread that goes to place 1 is missing at place 0.
        machine = (1, 3, (0, [2, 0, 0]), 2, [(0, 0, 0, 1, None, [])])
        self.assertEqual(explore(machine, fuel=3), [
            (0, [0, 2, None]), (0, [1, 1, None]), (0, [2, 0, None]),
        ])
        self.assertIsNone(explore(machine, fuel=2))

    def test_growth_from_an_ancestor_that_is_not_the_parent(self):
        # Only after two moves is there one more thread at place 1.
        machine = (2, 3, (0, [1, 0, 0]), 2, [(0, 0, 1, 0, 1, []), (1, 0, 0, 0, None, [])])
        self.assertEqual(explore(machine, fuel=9), [(0, [1, None, None]), (1, [1, None, None])])
        # Explored are the start, its successor, the widened start, and what follows from it.
        self.assertIsNotNone(explore(machine, fuel=4))
        self.assertIsNone(explore(machine, fuel=3))

    def test_growth_that_only_a_widened_form_shows(self):
        machine = (1, 3, (0, [0, 0, 0]), 0, [(0, 0, 0, 1, None, []), (0, 1, 0, 2, None, [])])
        self.assertEqual(explore(machine, fuel=9), [(0, [None, None, None])])
        self.assertEqual(len(explored_by_words(machine, 9)), 3)
        self.assertIsNotNone(explore(machine, fuel=3))
        self.assertIsNone(explore(machine, fuel=2))

    def test_fuel(self):
        for fuel in [0]:
            self.assertIsNone(explore((1, 1, (0, [0]), 0, []), fuel=fuel))
        for fuel in [1, 2, 10 ** 20]:
            self.assertEqual(explore((1, 1, (0, [0]), 0, []), fuel=fuel), [(0, [None])])
        for fuel in [-1, -50]:
            for machine in [MACHINE, SHIFTING]:
                with self.assertRaises(OutOfRange):
                    explore(machine, fuel=fuel)
        with self.assertRaises(TypeError):
            explore(MACHINE, 5)
        with self.assertRaises(TypeError):
            explore(MACHINE)

    def test_shifts(self):
        for fuel in [0, 1, 100]:
            with self.assertRaises(NotPossible):
                explore(SHIFTING, fuel=fuel)
        # Also if no thread ever takes the move.
        machine = (2, 2, (0, [1, 0]), 0, [(1, 0, 1, 0, None, [(0, 1)])])
        with self.assertRaises(NotPossible):
            explore(machine, fuel=5)

    def test_order(self):
        # None is greater than all numbers.
        machine = (1, 4, (0, [1, 0, 0, 0]), 3, [
            (0, 0, 0, 1, None, []), (0, 0, 0, 2, None, []), (0, 1, 0, 1, 1, []),
        ])
        self.assertEqual(explore(machine, fuel=9), [
            (0, [0, 0, 1, None]), (0, [0, None, 0, None]), (0, [1, 0, 0, None]),
        ])
        machine = (1, 3, (0, [0, 3, 0]), 2, [(0, 1, 0, 0, None, []), (0, 0, 0, 0, 0, [])])
        found = explore(machine, fuel=99)
        self.assertEqual(found, [(0, [0, 3, None]), (0, [None, 2, None])])

    def test_what_is_made(self):
        sizes = set()
        for machine, maker in without_shifts(300, 33):
            explored = explored_by_words(machine, 60)
            if explored is None:
                self.assertIsNone(explore(machine, fuel=60))
                continue
            many = len(explored)
            sizes.add(many)
            wanted = cover_of(explored)
            for fuel in [many, many + 1, 1000]:
                self.assertEqual(explore(machine, fuel=fuel), wanted)
            for fuel in [many - 1, many // 2, 0]:
                self.assertIsNone(explore(machine, fuel=fuel))
        self.assertGreater(len(sizes), 15, sizes)

    def test_of_programs(self):
        told = [0, 0]
        for program in programs(80, seed=33):
            machine = compile_program(program)
            if any(move[5] for move in machine[4]):
                with self.assertRaises(NotPossible):
                    explore(machine, fuel=80)
                continue
            explored = explored_by_words(machine, 80)
            found = explore(machine, fuel=80)
            told[explored is None] += 1
            self.assertEqual(found, None if explored is None else cover_of(explored))
            if explored is not None:
                self.assertIsNone(explore(machine, fuel=len(explored) - 1))
        self.assertGreater(min(told), 3, told)

    def test_what_can_be_reached(self):
        for machine, maker in without_shifts(150, 34):
            cover = explore(machine, fuel=200)
            if cover is not None:
                start = start_with(machine, maker.roll(5))
                run = scheduled(machine, start, [maker.roll(100) for _ in range(15)])
                for situation in follow(machine, start, run):
                    self.assertTrue(covered(situation, cover))

    def test_agrees_with_decide(self):
        told = [0, 0]
        for machine, maker in without_shifts(200, 35):
            cover = explore(machine, fuel=200)
            for situation in with_threads(machine, maker.roll(machine[0]), 3):
                answer = decide(machine, [situation], fuel=25)
                if cover is not None and answer[0] != "unknown":
                    possible = answer[0] == "possible"
                    self.assertIs(covered(situation, cover), possible)
                    told[possible] += 1
        self.assertGreater(min(told), 500, told)

    def test_new_lists(self):
        for machine, maker in without_shifts(80, 36):
            before = copy.deepcopy(machine)
            first, second = explore(machine, fuel=60), explore(machine, fuel=60)
            new_lists(self, (first, second), machine)
            spoil(first)
            self.assertEqual(machine, before)
            self.assertEqual(explore(machine, fuel=60), second)

    def test_kinds_of_values(self):
        found = explore(MACHINE, fuel=60)
        self.assertIs(type(found), list)
        for one in found:
            self.assertIs(type(one), tuple)
            self.assertIs(type(one[1]), list)


class Closed(unittest.TestCase):
    def check(self, machine, chosen, wanted):
        before = copy.deepcopy((machine, chosen))
        self.assertIs(is_closed(machine, chosen), wanted)
        self.assertEqual((machine, chosen), before)

    def test_by_hand(self):
        both = [(0, [1, None, None]), (1, [2, None, None])]
        self.check(MACHINE, both, True)
        self.check(MACHINE, both[::-1] + both, True)
        self.check(MACHINE, both[:1], False)
        self.check(MACHINE, both[1:], False)
        self.check(MACHINE, [], False)
        self.check(MACHINE, [(0, [1, 9, None]), both[1]], False)
        self.check(MACHINE, [(0, [0, None, None]), both[1]], False)
        self.check(MACHINE, [both[0], (1, [1, None, None])], False)
        self.check(MACHINE, [both[0], (1, [2, None, 9])], False)
        self.check(MACHINE, [(0, [None] * 3), (1, [None] * 3)], True)
        # Elements that cannot be reached need what follows from them, too.
        self.check(MACHINE, both + [(0, [0, 0, 5])], True)
        self.check(MACHINE, both + [(1, [4, 0, 0])], False)

    def test_beginning(self):
        machine = (1, 2, (0, [1, 0]), 1, [])
        for chosen, wanted in [
            ([(0, [1, None])], True), ([(0, [2, None])], True), ([(0, [0, None])], False),
            ([(0, [1, 7])], False), ([(0, [None, None])], True), ([], False),
            ([(0, [0, None]), (0, [1, 3])], False), ([(0, [0, 0]), (0, [1, None])], True),
        ]:
            self.check(machine, chosen, wanted)

    def test_shifts(self):
        for chosen in [[], [(0, [None, None])]]:
            with self.assertRaises(NotPossible):
                is_closed(SHIFTING, chosen)

    def test_covers_and_their_changes(self):
        told = [0, 0]
        for machine, maker in without_shifts(120, 37):
            cover = explore(machine, fuel=60)
            if cover is None:
                continue
            self.check(machine, cover, True)
            for at, (state, counts) in enumerate(cover):
                rest = cover[:at] + cover[at + 1:]
                self.check(machine, rest, is_closed_by_words(machine, rest))
                for place, count in enumerate(counts):
                    changed = list(counts)
                    changed[place] = 2 if count is None else None
                    chosen = rest + [(state, changed)]
                    wanted = is_closed_by_words(machine, chosen)
                    self.check(machine, chosen, wanted)
                    told[wanted] += 1
        self.assertGreater(min(told), 50, told)

    def test_any_lists(self):
        for machine, maker in without_shifts(300, 38):
            chosen = [rolled_wide(machine, maker) for _ in range(maker.roll(6))]
            chosen.append((machine[2][0], [None] * machine[1]))
            self.check(machine, chosen, is_closed_by_words(machine, chosen))

    def test_what_a_closed_list_says(self):
        for machine, maker in without_shifts(60, 39):
            chosen = [(state, [None] * machine[1]) for state in range(machine[0])]
            chosen = [one for one in chosen if maker.roll(3) > 0]
            if is_closed(machine, chosen):
                bad = [
                    situation for state in range(machine[0])
                    for situation in with_threads(machine, state, 2) if not covered(situation, chosen)
                ]
                self.assertEqual(decide(machine, bad, fuel=30)[0], "never")
