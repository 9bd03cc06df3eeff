"""Promise 37: tales of runs."""

import copy
import unittest

from legion.errors import NotPossible, OutOfRange
from legion.flow import lines_of
from legion.machine import Layout, compile_program
from legion.notation import parse_program
from legion.runs import follow, possible_moves, scheduled, start_with
from legion.tale import tell_run
from tests.makers import Roller, programs
from tests.samples import full_program

EVERYTHING = parse_program("""\
share x 0 3 1
share done 0 1 0
lock outer
lock inner
bell go
kind worker any
  local v -1 1 0
  skip
  set v - v 1
  acquire inner
  acquire outer
  if and < v 0 not = done 1
    set x + x v
    mark here
  else
  end
  release inner
  release outer
  start late
  choose
    rest go
  or
    loop <= x 0
      await true
      set x * 3 1
    end
  end
  check = done -1
end
kind late 0
  wake go
  set done 1
end
""")


def taking(program, crew, wanted):
    """The run in which at each time a thread of the wanted kind takes a step."""
    machine = compile_program(program)
    layout = Layout(program)
    run = []
    for kind in wanted:
        now = follow(machine, start_with(machine, crew), run)[-1]
        run.append([
            move for move in possible_moves(machine, now)
            if layout.place_values(machine[4][move][1])[0] == kind
        ][0])
    return run


class ByHand(unittest.TestCase):
    def test_each_sort_of_statement(self):
        # Each thread takes the first of its moves: it goes into the first body of the choose.
        run = taking(EVERYTHING, 1, [0] * 12 + [1, 1, 0])
        self.assertEqual(tell_run(EVERYTHING, 1, run), [
            "worker: skip -> x=1 done=0",
            "worker: set v - v 1 -> x=1 done=0",
            "worker: acquire inner -> x=1 done=0 inner",
            "worker: acquire outer -> x=1 done=0 outer inner",
            "worker: if and < v 0 not = done 1 -> x=1 done=0 outer inner",
            "worker: set x + x v -> x=0 done=0 outer inner",
            "worker: mark here -> x=0 done=0 outer inner",
            "worker: release inner -> x=0 done=0 outer",
            "worker: release outer -> x=0 done=0",
            "worker: start late -> x=0 done=0",
            "worker: choose -> x=0 done=0",
            "worker: rest go -> x=0 done=0",
            "late: wake go -> x=0 done=0",
            "late: set done 1 -> x=0 done=1",
            "worker: check = done -1 -> x=0 done=1",
        ])

    def test_the_other_body(self):
        machine = compile_program(EVERYTHING)
        run = taking(EVERYTHING, 1, [0] * 10)
        # At the point of the choose there are two ways, and the thread that was started.
        ways = possible_moves(machine, follow(machine, start_with(machine, 1), run)[-1])
        self.assertEqual(len(ways), 3)
        run.append(ways[1])
        for _ in range(5):
            now = follow(machine, start_with(machine, 1), run)[-1]
            run.append(possible_moves(machine, now)[0])
        self.assertEqual(tell_run(EVERYTHING, 1, run)[10:], [
            "worker: choose -> x=0 done=0",
            "worker: loop <= x 0 -> x=0 done=0",
            "worker: await true -> x=0 done=0",
            "worker: set x * 3 1 -> x=3 done=0",
            "worker: loop <= x 0 -> x=3 done=0",
            "worker: check = done -1 -> x=3 done=0",
        ])

    def test_without_values(self):
        program = ([], ["l"], [], [("c", None, [], [
            ("skip",), ("acquire", "l"), ("choose", [[], []]), ("check", False), ("release", "l"),
        ])])
        self.assertEqual(tell_run(program, 2, taking(program, 2, [0, 0, 0])), [
            "c: skip ->", "c: skip ->", "c: acquire l -> l",
        ])
        program = ([], [], [], [("c", None, [("v", -9, 0, -3)], [("set", "v", ("-", "v", -1))])])
        self.assertEqual(tell_run(program, 1, taking(program, 1, [0])), ["c: set v - v -1 ->"])

    def test_negative_values(self):
        program = ([("x", -9, -1, -3)], [], [], [("c", None, [], [("set", "x", ("*", "x", 3))])])
        self.assertEqual(tell_run(program, 1, taking(program, 1, [0])), ["c: set x * x 3 -> x=-9"])

    def test_order_of_the_locks(self):
        # In the order of the program, not in that in which they were taken, and not by name.
        body = [("acquire", "a"), ("acquire", "z"), ("acquire", "m")]
        body += [("release", lock) for lock in "azm"]
        program = ([], ["z", "m", "a"], [], [("c", None, [], body)])
        self.assertEqual(tell_run(program, 1, taking(program, 1, [0] * 6)), [
            "c: acquire a -> a", "c: acquire z -> z a", "c: acquire m -> z m a",
            "c: release a -> z m", "c: release z -> m", "c: release m ->",
        ])

    def test_empty_run(self):
        for crew in [0, 1, 5]:
            self.assertEqual(tell_run(EVERYTHING, crew, []), [])

    def test_threads_of_other_kinds(self):
        program = ([], [], [], [("c", None, [], [("skip",)]), ("d", 2, [], [("mark", "m")])])
        self.assertEqual(tell_run(program, 0, [1, 1]), ["d: mark m ->", "d: mark m ->"])
        self.assertEqual(tell_run(program, 1, [1, 0]), ["d: mark m ->", "c: skip ->"])


class Wrong(unittest.TestCase):
    def test_crew(self):
        for crew in [-1, -2, -100]:
            for run in [[], [0], [99999]]:
                with self.assertRaises(OutOfRange):
                    tell_run(EVERYTHING, crew, run)

    def test_moves_that_do_not_exist(self):
        many = len(compile_program(EVERYTHING)[4])
        first = taking(EVERYTHING, 1, [0])
        for move in [-1, -many, many, many + 1]:
            for run in [[move], first + [move]]:
                with self.assertRaises(OutOfRange):
                    tell_run(EVERYTHING, 1, run)

    def test_moves_that_are_not_possible(self):
        first = taking(EVERYTHING, 1, [0])
        for crew, run in [(0, first), (1, first + first), (2, first * 3)]:
            with self.assertRaises(NotPossible):
                tell_run(EVERYTHING, crew, run)
        self.assertEqual(len(tell_run(EVERYTHING, 2, first * 2)), 2)

    def test_the_first_wrong_move_counts(self):
        first = taking(EVERYTHING, 1, [0])
        with self.assertRaises(NotPossible):
            tell_run(EVERYTHING, 1, first + first + [-1])
        with self.assertRaises(OutOfRange):
            tell_run(EVERYTHING, 1, first + [-1] + first)


class WordByWord(unittest.TestCase):
    def test_programs(self):
        roller = Roller(37)
        for program in programs(80, seed=39) + [full_program(), EVERYTHING]:
            machine, layout = compile_program(program), Layout(program)
            crew = roller.roll(4)
            start = start_with(machine, crew)
            run = scheduled(machine, start, [roller.roll(60) for _ in range(25)])
            before = copy.deepcopy((program, run))
            tale = tell_run(program, crew, run)
            self.assertEqual(len(tale), len(run))
            for text, move, after in zip(tale, run, follow(machine, start, run)[1:]):
                kind, point, _ = layout.place_values(machine[4][move][1])
                values, held = layout.state_values(after[0])
                words = [program[3][kind][0] + ":", lines_of(program[3][kind])[point], "->"]
                words += [f"{share[0]}={values[share[0]]}" for share in program[0]]
                words += [lock for lock in program[1] if lock in held]
                self.assertEqual(text, " ".join(words))
            tale.clear()
            self.assertEqual((program, run), before)
            self.assertEqual(len(tell_run(program, crew, run)), len(run))
