"""Promises 35, 36 and 1: answers to questions, and what threads do when they are executed."""

import unittest

from legion.answer import decide
from legion.machine import compile_program
from legion.notation import parse_program
from legion.questions import (
    broken_situations,
    knot_situations,
    mark_situations,
    race_situations,
)
from tests.executing import Execution, statements_in_order
from tests.makers import LockMaker, ProgramMaker

FORK = """\
lock a
lock b
kind left any
  acquire a
  acquire b
  release b
  release a
end
kind right 1
  acquire b
  acquire a
  release a
  release b
end
"""

COUNTER = """\
share x 0 3 0
kind worker any
  local v 0 3 0
  set v x
  set x + v 1
  check = x + v 1
end
"""

SLEEPERS = """\
share done 0 1 0
bell go
kind sleeper any
  rest go
  check = done 1
  mark awake
end
kind waker 1
  if = done 0
    start late
  else
  end
  wake go
  set done 1
end
kind late 0
  choose
    set done 1
  or
    mark awake
  end
end
"""


def questions_of(program, execution):
    """For each question about a program: its bad situations, and what tells if a world is one."""
    found = [
        (broken_situations(program), execution.broken),
        (knot_situations(program), execution.knotted),
    ]
    for share in program[0]:
        found.append((
            race_situations(program, share[0]),
            lambda world, name=share[0]: execution.racing(world, name),
        ))
    marks = sorted({
        statement[1] for kind in program[3] for statement in statements_in_order(kind[3])
        if statement[0] == "mark"
    })
    for first in marks:
        for second in marks:
            found.append((
                mark_situations(program, first, second),
                lambda world, one=first, other=second: execution.at_marks(world, one, other),
            ))
    return found


class Executing(unittest.TestCase):
    told = {"never": 0, "possible": 0, "unknown": 0}

    def first_time(self, worlds, is_bad):
        """After how many steps a bad world is reached first, or None."""
        return min([steps for world, steps in worlds.items() if is_bad(world)], default=None)

    def check(self, program, fuel=40, most=1500):
        execution = Execution(program)
        machine = compile_program(program)
        reached = {crew: execution.reachable(crew, most) for crew in range(3)}
        for bad, is_bad in questions_of(program, execution):
            answer = decide(machine, bad, fuel=fuel)
            self.told[answer[0]] += 1
            for crew, worlds in reached.items():
                if worlds is None or answer[0] == "unknown":
                    continue
                time = self.first_time(worlds, is_bad)
                if answer[0] == "never" or crew < answer[1]:
                    self.assertIsNone(time)
                elif crew == answer[1]:
                    self.assertEqual(time, len(answer[2]))
                else:
                    self.assertLessEqual(time, len(answer[2]))

    def test_fork(self):
        program = parse_program(FORK)
        self.check(program)
        answer = decide(compile_program(program), knot_situations(program))
        self.assertEqual((answer[:2], len(answer[2])), (("possible", 1), 2))

    def test_counter(self):
        program = parse_program(COUNTER)
        self.check(program)
        answer = decide(compile_program(program), broken_situations(program))
        self.assertEqual((answer[:2], len(answer[2])), (("possible", 2), 5))

    def test_sleepers(self):
        self.check(parse_program(SLEEPERS))

    def test_programs(self):
        self.told.update({"never": 0, "possible": 0, "unknown": 0})
        for seed in range(60):
            self.check(ProgramMaker(seed * 1000003 + 35).made(), most=150)
        self.assertGreater(min(self.told["never"], self.told["possible"]), 30, self.told)

    def test_programs_with_locks(self):
        self.told.update({"never": 0, "possible": 0, "unknown": 0})
        for seed in range(80):
            self.check(LockMaker(seed * 1000003 + 36).made(), most=300)
        self.assertGreater(min(self.told["never"], self.told["possible"]), 8, self.told)
