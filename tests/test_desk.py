"""Promises 40 and 41: commands to a desk, and their answers."""

import copy
import unittest

from legion.ahead import explore
from legion.answer import decide
from legion.desk import Desk
from legion.errors import BadCommand, BadProgram, LegionError
from legion.machine import compile_program
from legion.notation import parse_program
from legion.questions import (
    broken_situations,
    knot_situations,
    mark_situations,
    race_situations,
)
from legion.runs import scheduled, start_with
from legion.tale import tell_run
from tests.executing import statements_in_order
from tests.makers import LockMaker, Roller, programs
from tests.samples import full_program, spoil

COUNTER = parse_program("""\
share x 0 3 0
lock g
kind worker any
  set x + x 1
  mark m
  check < x 3
end
""")

FORKS = parse_program("""\
lock a
lock b
kind left any
  acquire a
  acquire b
  mark eat
  release b
  release a
end
kind right 1
  acquire b
  acquire a
  mark eat
  release a
  release b
end
""")

BELLS = parse_program("""\
share x 0 1 0
bell b
kind c any
  local v 0 1 0
  rest b
  set v 1
  mark v
end
kind d 1
  wake b
  mark d
end
""")

# Each command with as many words as it needs, for COUNTER.
RIGHT = [
    "size", "broken", "marks m m", "race x", "knots", "tale", "run 0", "run 2 1 0 5", "cover",
]


def plain(body, others=(), shares=()):
    """A program whose crew has the given body."""
    return (list(shares), [], [], [("c", None, [], body), *others])


def question(program, bad):
    """The text that a desk answers to a question, and the tale that it can tell then, or None."""
    answer = decide(compile_program(program), bad, fuel=60)
    if answer[0] == "never":
        return f"never {len(answer[1])}", None
    if answer[0] == "unknown":
        return "unknown", None
    _, crew, run, basis = answer
    return f"possible {crew} {len(run)} {len(basis)}", told(tell_run(program, crew, run))


def told(tale):
    """The text of a tale."""
    return "; ".join(tale) or "none"


class ByHand(unittest.TestCase):
    def check(self, program, *talk):
        """Ask one desk, command by command."""
        desk = Desk(program)
        for command, wanted in talk:
            self.assertEqual(desk.ask(command), wanted, command)

    def test_size(self):
        self.check(COUNTER, ("size", "8 states, 5 places, 24 moves"))
        self.check(FORKS, ("size", "4 states, 14 places, 32 moves"))
        self.check(plain([]), ("size", "1 states, 2 places, 0 moves"))
        self.check(plain([("skip",)]), ("size", "1 states, 3 places, 1 moves"))

    def test_questions(self):
        self.check(COUNTER, ("broken", "possible 3 5 20"), ("marks m m", "possible 2 2 24"),
                   ("race x", "possible 2 0 24"), ("knots", "never 0"))
        self.check(FORKS, ("broken", "never 8"), ("knots", "possible 1 2 86"))
        self.check(plain([]), ("broken", "never 1"), ("knots", "never 0"))

    def test_tale_before_and_after(self):
        two_sets = "worker: set x + x 1 -> x=1; worker: set x + x 1 -> x=2"
        self.check(
            COUNTER, ("tale", "none"), ("size", "8 states, 5 places, 24 moves"), ("tale", "none"),
            ("knots", "never 0"), ("tale", "none"), ("marks m m", "possible 2 2 24"),
            ("tale", two_sets), ("tale", two_sets), ("knots", "never 0"), ("tale", two_sets),
            ("run 1 0", "worker: set x + x 1 -> x=1"), ("tale", two_sets), ("cover", "4"),
            ("tale", two_sets), ("broken", "possible 3 5 20"),
            ("tale", two_sets + "; worker: set x + x 1 -> x=3; worker: mark m -> x=3; "
             "worker: check < x 3 -> x=3"),
        )

    def test_tale_of_an_empty_run(self):
        # Two threads race at the start: the run is empty, and it is the latest one.
        self.check(
            COUNTER, ("broken", "possible 3 5 20"), ("race x", "possible 2 0 24"),
            ("tale", "none"),
        )

    def test_tale_after_unknown(self):
        program = plain(
            [("if", True, [("check", False)], [])] + [("skip",)] * 60 + [("mark", "far")],
        )
        tale = "c: if true ->; c: check false ->"
        self.check(
            program, ("marks far far", "unknown"), ("tale", "none"), ("broken", "possible 1 2 3"),
            ("tale", tale), ("marks far far", "unknown"), ("tale", tale),
        )

    def test_tale_has_its_own_crew(self):
        # The latest run needs one crew thread, the one before needed two.
        program = plain([("mark", "a"), ("check", False)])
        self.check(
            program, ("marks a a", "possible 2 0 1"), ("broken", "possible 1 2 3"),
            ("tale", "c: mark a ->; c: check false ->"),
        )

    def test_run(self):
        self.check(
            COUNTER, ("run 0", "none"), ("run 5", "none"), ("run 0 1 2 3", "none"),
            ("run 1 0 0 0 0 0 0", "worker: set x + x 1 -> x=1; worker: mark m -> x=1; "
             "worker: check < x 3 -> x=1"),
            ("run 2 0 0 1", "worker: set x + x 1 -> x=1; worker: set x + x 1 -> x=2; "
             "worker: mark m -> x=2"),
            ("run 2 0 1 999999", "worker: set x + x 1 -> x=1; worker: mark m -> x=1; "
             "worker: check < x 3 -> x=1"),
            ("run 99 7", "worker: set x + x 1 -> x=1"),
        )
        program = plain([], [("d", 1, [], [("skip",)])])
        self.check(program, ("run 0 4", "d: skip ->"), ("run 0", "none"))

    def test_cover(self):
        self.check(COUNTER, ("cover", "4"))
        self.check(BELLS, ("cover", "wakes"))
        # Who rings a bell at which nobody can rest moves nobody.
        self.check(([], [], ["b"], [("c", None, [], [("wake", "b")])]), ("cover", "1"))

    def test_fuel_of_the_cover(self):
        # So many ways in which some threads, and one thread, can have gone on.
        for many, length, wanted in [(5, 49, "300"), (6, 42, "unknown"), (4, 58, "295")]:
            walkers = [
                ("few", many, [], [("skip",)]), ("one", 1, [], [("skip",)] * length),
            ]
            self.check(plain([], walkers), ("cover", wanted))

    def test_fuel_of_questions(self):
        for length, wanted in [(57, "possible 1 58 59"), (58, "possible 1 59 60"), (59, "unknown")]:
            self.check(plain([("skip",)] * length + [("check", False)]), ("broken", wanted))

    def test_a_long_schedule(self):
        program = plain([("loop", True, [])])
        desk = Desk(program)
        answer = desk.ask("run 3" + " 123456" * 2000)
        self.assertEqual(answer, "; ".join(["c: loop true ->"] * 2000))


class AsTheOthersSay(unittest.TestCase):
    def check(self, program, roller):
        """Ask one desk all that it can answer, and compare with what the other functions say."""
        machine = compile_program(program)
        commands = {"broken": broken_situations(program), "knots": knot_situations(program)}
        for share in program[0]:
            commands["race " + share[0]] = race_situations(program, share[0])
        marks = sorted({
            row[1] for kind in program[3] for row in statements_in_order(kind[3])
            if row[0] == "mark"
        })
        for first in marks:
            second = roller.pick(marks)
            commands[f"marks {first} {second}"] = mark_situations(program, first, second)
        desk = Desk(program)
        latest = "none"
        for command, bad in commands.items():
            wanted, tale = question(program, bad)
            self.assertEqual(desk.ask(command), wanted)
            latest = latest if tale is None else tale
            self.assertEqual(desk.ask("tale"), latest)
            schedule = [roller.roll(100) for _ in range(roller.roll(12))]
            run = scheduled(machine, start_with(machine, 2), schedule)
            words = ["run", "2"] + [str(number) for number in schedule]
            self.assertEqual(desk.ask(" ".join(words)), told(tell_run(program, 2, run)))
        many = (machine[0], machine[1], len(machine[4]))
        self.assertEqual(desk.ask("size"), "{} states, {} places, {} moves".format(*many))
        if any(move[5] for move in machine[4]):
            self.assertEqual(desk.ask("cover"), "wakes")
        else:
            cover = explore(machine, fuel=300)
            self.assertEqual(desk.ask("cover"), "unknown" if cover is None else str(len(cover)))
        self.assertEqual(desk.ask("tale"), latest)

    def test_programs(self):
        roller = Roller(40)
        lockers = [LockMaker(seed * 1000003 + 40).made() for seed in range(15)]
        for program in [COUNTER, FORKS, BELLS] + programs(30, seed=42) + lockers:
            before = copy.deepcopy(program)
            self.check(program, roller)
            self.assertEqual(program, before)


class BadCommands(unittest.TestCase):
    def refuse(self, command, program=COUNTER):
        """A desk refuses a command, and answers afterwards as if it had not been given."""
        desk, other = Desk(program), Desk(program)
        for before in ["broken", "knots"]:
            self.assertEqual(desk.ask(before), other.ask(before))
            with self.assertRaises(BadCommand, msg=repr(command)):
                desk.ask(command)
            for after in ["tale", "size", "run 2 0 0 1", "cover"]:
                self.assertEqual(desk.ask(after), other.ask(after))

    def test_empty_words(self):
        for command in ["", " ", "  ", "   "]:
            self.refuse(command)
        for right in RIGHT:
            self.refuse(" " + right)
            self.refuse(right + " ")
            self.refuse(right.replace(" ", "  ", 1) if " " in right else right + "  ")

    def test_unknown_first_words(self):
        for word in [
            "sizes", "siz", "Size", "SIZE", "mark", "race:", "help", "0", "run1", "size;", "x",
            "possible", "never", "ask",
        ]:
            self.refuse(word)
            self.refuse(word + " x")

    def test_number_of_words(self):
        for command in [
            "size x", "size 0", "broken x", "knots g", "tale tale", "cover 300", "cover x y",
            "marks", "marks m", "marks m m m", "race", "race x x", "run",
        ]:
            self.refuse(command)

    def test_numbers(self):
        for word in [
            "00", "01", "007", "+1", "-1", "-0", "1000000", "0000001", "1234567", "x", "1x", "x1",
            "1.0", "1,0", "0x1", "1_0", "1e1", "", "one", "\u0661", "\u00b2", "1\n", "\t1", "1-1",
        ]:
            self.refuse("run " + word)
            self.refuse("run 2 " + word)
            self.refuse("run 2 0 " + word + " 0")
        desk = Desk(COUNTER)
        for right in ["run 0", "run 10 0 10 999999 100000", "run 99 0"]:
            desk.ask(right)

    def test_crew_of_a_run(self):
        desk = Desk(COUNTER)
        desk.ask("run 99")
        for crew in ["100", "101", "999", "999999"]:
            self.refuse("run " + crew)
            self.refuse("run " + crew + " 0 0")
        self.assertNotEqual(desk.ask("run 99 100 999"), "none")

    def test_marks_that_occur_nowhere(self):
        for command in [
            "marks m n", "marks n m", "marks n n", "marks x m", "marks m worker", "marks M m",
            "marks m 0", "marks m g", "marks m m;",
        ]:
            self.refuse(command)
        for command in ["marks v d", "marks d v"]:
            self.assertEqual(Desk(BELLS).ask(command)[:9], "possible ")
        self.refuse("marks x v", BELLS)

    def test_names_that_are_no_shares(self):
        for name in ["g", "m", "worker", "y", "X", "x;", "0"]:
            self.refuse("race " + name)
        for name in ["v", "b", "c", "d", "y"]:
            self.refuse("race " + name, BELLS)

    def test_other_spaces(self):
        for command in [
            "size\n", "\nsize", "race\tx", "race\nx", "race x\n", "marks m\nm", "run\u00a01",
            "run 1\t0", "tale\r",
        ]:
            self.refuse(command)

    def test_it_is_an_error_of_the_program(self):
        with self.assertRaises(LegionError):
            Desk(COUNTER).ask("nothing")


class Programs(unittest.TestCase):
    def test_wrong_ones(self):
        for program in [
            ([], [], [], []), None, (), [], 5, "", ([], [], [], [("c", 1, [], [])]),
            plain([("set", "x", 1)]), plain([("acquire", "l")]), list(COUNTER),
            ([("x", 0, 64, 0)], [], [], [("c", None, [], [])]),
        ]:
            with self.assertRaises(BadProgram):
                Desk(program)

    def test_later_changes_have_no_effect(self):
        for program in [COUNTER, FORKS, BELLS, full_program()]:
            passed = copy.deepcopy(program)
            desk, other = Desk(passed), Desk(program)
            first = desk.ask("knots")
            spoil(passed)
            self.assertEqual(first, other.ask("knots"))
            commands = ["size", "broken", "tale", "knots", "cover", "run 2 0 1 2 3"]
            commands += ["race " + share[0] for share in program[0]]
            for command in commands:
                self.assertEqual(desk.ask(command), other.ask(command))

    def test_changes_deep_within(self):
        body = [("check", False)]
        passed = plain([("if", True, body, []), ("mark", "m")])
        desk = Desk(passed)
        body[0] = ("skip",)
        self.assertEqual(desk.ask("broken")[:8], "possible")
        self.assertEqual(desk.ask("tale"), "c: if true ->; c: check false ->")

    def test_the_program_is_not_changed(self):
        for program in [COUNTER, FORKS, BELLS]:
            before = copy.deepcopy(program)
            desk = Desk(program)
            for command in ["size", "broken", "tale", "knots", "cover", "run 2 0 1 2 3"]:
                desk.ask(command)
            self.assertEqual(program, before)

    def test_desks_do_not_know_each_other(self):
        first, second = Desk(COUNTER), Desk(COUNTER)
        first.ask("broken")
        self.assertNotEqual(first.ask("tale"), "none")
        self.assertEqual(second.ask("tale"), "none")
