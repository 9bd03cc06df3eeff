"""Promises 38 and 39: enclosing a range of a body, and repairs."""

import copy
import itertools
import unittest

from legion.answer import decide
from legion.errors import BadProgram, OutOfRange
from legion.machine import Layout, compile_program
from legion.notation import format_program, parse_program
from legion.program import check_program, crew_kind
from legion.questions import race_situations
from legion.repair import enclosed, find_repair
from tests.makers import Roller, programs
from tests.samples import full_program, new_lists, spoil

ADD = ("set", "x", ("+", "x", 1))


def one_kind(body, shares=(("x", 0, 1, 0),), locks=(), others=()):
    """A program whose crew has the given body."""
    return (list(shares), list(locks), [], [("c", None, [], body), *others])


def repaired_by_words(program, share, fuel):
    """The repair, found as the point says it."""
    kind = crew_kind(program)
    size = len(program[3][kind][3])
    ranges = itertools.combinations_with_replacement(range(size), 2)
    for first, last in sorted(ranges, key=lambda one: (one[1] - one[0], one[0])):
        changed = copy.deepcopy(program)
        changed[1].append("guard")
        body = changed[3][kind][3]
        body.insert(last + 1, ("release", "guard"))
        body.insert(first, ("acquire", "guard"))
        try:
            check_program(changed)
        except BadProgram:
            continue
        bad = race_situations(changed, share)
        if decide(compile_program(changed), bad, fuel=fuel)[0] == "never":
            return (first, last)
    return None


class Enclosed(unittest.TestCase):
    def test_each_range(self):
        body = [("skip",), ("mark", "a"), ("mark", "b")]
        for first, last, wanted in [
            (0, 0, ["<", "skip", ">", "a", "b"]), (1, 1, ["skip", "<", "a", ">", "b"]),
            (2, 2, ["skip", "a", "<", "b", ">"]), (0, 1, ["<", "skip", "a", ">", "b"]),
            (1, 2, ["skip", "<", "a", "b", ">"]), (0, 2, ["<", "skip", "a", "b", ">"]),
        ]:
            names = {"<": ("acquire", "n"), ">": ("release", "n"), "skip": ("skip",)}
            found = enclosed(one_kind(body, locks=["l"]), 0, first, last, "n")
            statements = [names.get(word, ("mark", word)) for word in wanted]
            self.assertEqual(found, one_kind(statements, locks=["l", "n"]))

    def test_in_one_of_several_kinds(self):
        program = full_program()
        for kind in [0, 1]:
            for first, last in [(0, 0), (0, len(program[3][kind][3]) - 1)]:
                found = enclosed(program, kind, first, last, "z9")
                self.assertEqual(found[0], program[0])
                self.assertEqual(found[1], ["l", "m", "z9"])
                self.assertEqual(found[2], program[2])
                self.assertEqual(found[3][1 - kind], program[3][1 - kind])
                self.assertEqual(found[3][kind][:3], program[3][kind][:3])
                body = list(program[3][kind][3])
                body.insert(last + 1, ("release", "z9"))
                body.insert(first, ("acquire", "z9"))
                self.assertEqual(found[3][kind][3], body)

    def test_the_result_may_be_invalid(self):
        # A thread that rests holds no lock; and the locks of a body are taken and given back in it.
        resting = ([], [], ["b"], [("c", None, [], [("rest", "b")])])
        found = enclosed(resting, 0, 0, 0, "n")
        self.assertEqual(found[3][0][3], [("acquire", "n"), ("rest", "b"), ("release", "n")])
        with self.assertRaises(BadProgram):
            check_program(found)
        crowded = ([("x", 0, 63, 0)], [], [], [("c", None, [], [("skip",)])])
        with self.assertRaises(BadProgram):
            check_program(enclosed(crowded, 0, 0, 0, "n"))

    def test_as_text(self):
        text = "lock a\nkind c any\n  loop true\n    skip\n  end\n  acquire a\n  release a\nend\n"
        found = enclosed(parse_program(text), 0, 0, 1, "b")
        self.assertEqual(format_program(found), (
            "lock a\nlock b\nkind c any\n  acquire b\n  loop true\n    skip\n  end\n  acquire a\n"
            "  release b\n  release a\nend\n"
        ))

    def test_new_lists(self):
        for program in [full_program()] + programs(60, seed=40):
            for kind, row in enumerate(program[3]):
                if row[3]:
                    before = copy.deepcopy(program)
                    first = enclosed(program, kind, 0, len(row[3]) - 1, "n")
                    second = enclosed(program, kind, 0, len(row[3]) - 1, "n")
                    new_lists(self, (first, second), program)
                    spoil(first)
                    self.assertEqual(program, before)
                    self.assertEqual(enclosed(program, kind, 0, len(row[3]) - 1, "n"), second)

    def test_lists_that_occur_twice_in_the_program(self):
        body = [("skip",)]
        program = one_kind([("if", True, body, body), ("loop", False, body)], others=[("d", 1, [], body)])
        found = enclosed(program, 0, 0, 1, "n")
        new_lists(self, found, program)
        body.append(("skip",))
        self.assertEqual(found[3][1][3], [("skip",)])
        self.assertEqual(found[3][0][3][1], ("if", True, [("skip",)], [("skip",)]))


class FindRepair(unittest.TestCase):
    def check(self, program, wanted, share="x", **more):
        before = copy.deepcopy(program)
        self.assertEqual(find_repair(program, share, **more), wanted)
        self.assertEqual(program, before)
        self.assertEqual(repaired_by_words(program, share, more.get("fuel", 60)), wanted)

    def test_one_statement(self):
        self.check(one_kind([ADD]), (0, 0))
        self.check(one_kind([("skip",), ADD, ("skip",)]), (1, 1))

    def test_several_statements(self):
        self.check(one_kind([ADD, ("skip",), ADD]), (0, 2))
        self.check(one_kind([("skip",), ADD, ("check", ("=", "x", 1)), ("skip",)]), (1, 2))
        self.check(one_kind([("if", ("=", "x", 0), [ADD], []), ("skip",)]), (0, 0))

    def test_the_first_of_several(self):
        # Without a race each range will do.
        self.check(one_kind([("skip",), ("skip",)]), (0, 0))
        self.check(one_kind([("check", ("=", "x", 0)), ("mark", "x")]), (0, 0))
        # The second statement alone, not the first two.
        self.check(one_kind([("skip",), ADD]), (1, 1))
        # Two statements from 1 on come before three from 0 on.
        self.check(one_kind([("skip",), ADD, ADD]), (1, 2))
        # The first one that does is taken, even if a range of the same length does, too.
        self.check(one_kind([ADD, ("skip",), ("loop", True, [("skip",)]), ("skip",)]), (0, 0))

    def test_a_lock_that_is_there_already(self):
        body = [("acquire", "l"), ADD, ("release", "l")]
        self.check(one_kind(body, locks=["l"]), (0, 0))

    def test_none(self):
        # Another kind sets the share, too.
        self.check(one_kind([ADD], others=[("d", 1, [], [ADD])]), None)
        # No thread may rest while it holds the lock.
        body = [("wake", "b"), ADD, ("rest", "b"), ADD]
        self.check(([("x", 0, 1, 0)], [], ["b"], [("c", None, [], body)]), None)
        # Nobody rings: so no thread ever gets to the second set.
        self.check(([("x", 0, 1, 0)], [], ["b"], [("c", None, [], body[1:])]), (0, 0))
        # With one more lock there are too many shared states.
        self.check(one_kind([ADD], [("x", 0, 32, 0)]), None)
        self.check(one_kind([ADD], [("x", 0, 31, 0)]), (0, 0))

    def test_a_crew_without_statements(self):
        self.check(one_kind([]), None)
        self.check(one_kind([], others=[("d", 2, [], [ADD])]), None)

    def test_only_the_crew_is_enclosed(self):
        # Two threads of another kind race, whatever the crew does.
        others = [("d", 2, [], [ADD])]
        self.check(one_kind([("skip",), ("skip",)], others=others), None)
        program = ([("x", 0, 1, 0)], [], [], [("d", 1, [], [("skip",)]), ("c", None, [], [ADD])])
        self.check(program, (0, 0))

    def test_guard_in_use(self):
        for program in [
            one_kind([ADD], [("x", 0, 1, 0), ("guard", 0, 1, 0)]), one_kind([ADD], locks=["guard"]),
            ([("x", 0, 1, 0)], [], ["guard"], [("c", None, [], [ADD])]),
            ([("x", 0, 1, 0)], [], [], [("guard", None, [], [ADD])]),
            one_kind([ADD], others=[("guard", 0, [], [])]),
            ([("x", 0, 1, 0)], [], [], [("c", None, [("guard", 0, 1, 0)], [ADD])]),
            one_kind([ADD], others=[("d", 0, [("guard", 0, 1, 0)], [])]),
        ]:
            self.check(program, None)
        # A mark may have any name.
        self.check(one_kind([ADD, ("mark", "guard")]), (0, 0))
        # If the share itself is called so, there is no repair either.
        self.check(one_kind([("set", "guard", 1)], [("guard", 0, 1, 0)]), None, "guard")

    def test_the_share_that_is_asked_for(self):
        shares = [("x", 0, 1, 0), ("y", 0, 1, 0)]
        body = [ADD, ("set", "y", 1), ("skip",)]
        self.check(one_kind(body, shares), (0, 0))
        self.check(one_kind(body, shares), (1, 1), "y")

    def test_not_a_share(self):
        program = ([("x", 0, 1, 0)], ["l"], ["b"], [("c", None, [("v", 0, 1, 0)], [("mark", "m")])])
        for share in ["l", "b", "c", "v", "m", "guard", "", "X"]:
            for fuel in [0, 60]:
                with self.assertRaises(OutOfRange):
                    find_repair(program, share, fuel=fuel)
        with self.assertRaises(OutOfRange):
            find_repair(one_kind([]), "y")

    def test_fuel(self):
        for program in [one_kind([ADD]), one_kind([]), one_kind([ADD], locks=["guard"])]:
            for fuel in [-1, -60]:
                with self.assertRaises(OutOfRange):
                    find_repair(program, "x", fuel=fuel)
            self.check(program, None, fuel=0)
        needed = [fuel for fuel in range(20) if find_repair(one_kind([ADD]), "x", fuel=fuel)]
        self.assertEqual(needed, list(range(needed[0], 20)))
        self.assertGreater(needed[0], 1)
        with self.assertRaises(TypeError):
            find_repair(one_kind([ADD]), "x", 60)

    def test_fuel_that_is_left_out(self):
        # A thread of the other kind, which is never started, would take so long to get to its check.
        for length, fuel, wanted in [(52, 60, (5, 5)), (53, 61, None)]:
            crew = [("skip",)] * 5 + [ADD]
            other = [("skip",)] * length + [("check", ("=", "x", 0))]
            program = one_kind(crew, [("x", 0, 0, 0)], others=[("d", 0, [], other)])
            self.assertEqual(find_repair(program, "x"), wanted)
            self.assertEqual(find_repair(program, "x", fuel=60), wanted)
            self.assertEqual(find_repair(program, "x", fuel=fuel), (5, 5))
            self.assertIsNone(find_repair(program, "x", fuel=fuel - 1))

    def test_word_by_word(self):
        told = {True: 0, False: 0}
        roller = Roller(39)
        for program in programs(150, seed=41):
            layout = Layout(program)
            for share in program[0]:
                if layout.states * layout.places < 200:
                    fuel = roller.pick([2, 4, 6])
                    wanted = repaired_by_words(program, share[0], fuel)
                    before = copy.deepcopy(program)
                    self.assertEqual(find_repair(program, share[0], fuel=fuel), wanted)
                    self.assertEqual(program, before)
                    told[wanted is not None] += 1
        self.assertGreater(min(told.values()), 5, told)
