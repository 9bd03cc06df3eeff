"""Promise 35: the bad situations of questions about programs."""

import copy
import itertools
import unittest

from legion.errors import OutOfRange
from legion.flow import held_at
from legion.machine import Layout, compile_program
from legion.notation import parse_program
from legion.order import least_ones
from legion.questions import (
    broken_situations,
    knot_situations,
    mark_situations,
    race_situations,
)
from tests.executing import sets_share, statements_in_order, touches, frozen
from tests.makers import LockMaker, programs
from tests.samples import full_program, new_lists, spoil
from tests.slowly import least_by_words


class Words:
    """The questions about one program, answered as the point says it word by word."""

    def __init__(self, program):
        self.program = program
        self.layout = Layout(program)
        self.machine = compile_program(program)
        self.statements = [statements_in_order(kind[3]) for kind in program[3]]
        self.held = [held_at(kind) for kind in program[3]]
        self.spots = [
            self.layout.place_values(place)[:2] for place in range(self.layout.places)
        ]

    def statement(self, place):
        """The statement of the point of a place, or None."""
        kind, point = self.spots[place]
        rows = self.statements[kind]
        return rows[point] if point < len(rows) else None

    def is_broken(self, place):
        """If the point of a place is a broken one."""
        kind, point = self.spots[place]
        rests = [row for row in self.statements[kind] if row[0] == "rest"]
        return point == len(self.statements[kind]) + 1 + len(rests)

    def with_threads(self, state, places):
        """The situation with a thread at each of these places."""
        return (state, [places.count(at) for at in range(self.layout.places)])

    def pairs(self, fits):
        """The situations with two threads, of which fits tells whether they are bad."""
        found = []
        for state in range(self.layout.states):
            for pair in itertools.combinations_with_replacement(range(self.layout.places), 2):
                if fits(state, *pair) or fits(state, *pair[::-1]):
                    found.append(self.with_threads(state, pair))
        return sorted(found)

    def broken(self):
        """The question broken."""
        return sorted(
            self.with_threads(state, [place])
            for state in range(self.layout.states)
            for place in range(self.layout.places) if self.is_broken(place)
        )

    def marks(self, first, second):
        """The question marks."""
        return self.pairs(lambda _, one, other: (
            self.statement(one) == ("mark", first) and self.statement(other) == ("mark", second)
        ))

    def race(self, share):
        """The question race."""
        moving = {move[:2] for move in self.machine[4]}

        def fits(state, one, other):
            if (state, one) not in moving or (state, other) not in moving:
                return False
            first, second = frozen(self.statement(one)), frozen(self.statement(other))
            return sets_share(first, share) and touches(second, share)

        return self.pairs(fits)

    def knots(self):
        """The question knots."""
        found = []
        locks = self.program[1]
        for size in range(2, len(locks) + 1):
            for ring in itertools.permutations(locks, size):
                choices = [
                    self.waiting(lock, ring[(at + 1) % size]) for at, lock in enumerate(ring)
                ]
                for state in range(self.layout.states):
                    if set(ring) <= set(self.layout.state_values(state)[1]):
                        for places in itertools.product(*choices):
                            one = self.with_threads(state, places)
                            if one not in found:
                                found.append(one)
        return least_by_words(found)

    def waiting(self, lock, other):
        """The places with an acquire of the other lock by a thread that holds the first one."""
        return [
            place for place, (kind, point) in enumerate(self.spots)
            if self.statement(place) == ("acquire", other) and lock in self.held[kind][point]
        ]


def text_of(*lines):
    """A text of lines."""
    return "".join(line + "\n" for line in lines)


# Kinds, locals, shares, a lock, marks and rests. A share has the name of a mark.
MIXED = parse_program(text_of(
    "share x 0 1 0",
    "share y 0 2 1",
    "lock l",
    "bell b",
    "kind c any",
    "  local v 0 1 0",
    "  mark x",
    "  set v x",
    "  check < v y",
    "  if = x v",
    "    set y 1",
    "  else",
    "    rest b",
    "  end",
    "end",
    "kind d 2",
    "  mark here",
    "  acquire l",
    "  await and = y 2 not = x 0",
    "  set x + y 1",
    "  wake b",
    "  release l",
    "  mark x",
    "end",
))


class Broken(unittest.TestCase):
    def test_by_hand(self):
        program = parse_program(text_of(
            "share x 0 1 0", "kind c any", "  skip", "end", "kind d 0", "  local v 0 1 0", "  skip",
            "end",
        ))
        # Points 0, end and broken of c, and twice as many places of d.
        self.assertEqual(broken_situations(program), [
            (0, [0, 0, 0, 0, 0, 0, 0, 0, 1]), (0, [0, 0, 0, 0, 0, 0, 0, 1, 0]),
            (0, [0, 0, 1, 0, 0, 0, 0, 0, 0]), (1, [0, 0, 0, 0, 0, 0, 0, 0, 1]),
            (1, [0, 0, 0, 0, 0, 0, 0, 1, 0]), (1, [0, 0, 1, 0, 0, 0, 0, 0, 0]),
        ])

    def test_without_checks(self):
        # There is a broken point even if no check leads to it.
        program = ([], [], [], [("c", None, [], [])])
        self.assertEqual(broken_situations(program), [(0, [0, 1])])

    def test_word_by_word(self):
        for program in [MIXED, full_program()] + programs(60, seed=35):
            self.assertEqual(broken_situations(program), Words(program).broken())


class Marks(unittest.TestCase):
    def test_by_hand(self):
        program = parse_program(text_of(
            "kind c any", "  mark a", "  mark b", "  mark a", "end", "kind d 1", "  mark b", "end",
        ))
        # Places: a, b, a, end, broken; b, end, broken.
        self.assertEqual(mark_situations(program, "a", "b"), [
            (0, [0, 0, 1, 0, 0, 1, 0, 0]), (0, [0, 1, 1, 0, 0, 0, 0, 0]),
            (0, [1, 0, 0, 0, 0, 1, 0, 0]), (0, [1, 1, 0, 0, 0, 0, 0, 0]),
        ])
        self.assertEqual(mark_situations(program, "b", "a"), mark_situations(program, "a", "b"))

    def test_the_same_name(self):
        program = parse_program(text_of("kind c any", "  mark a", "  mark b", "  mark a", "end"))
        self.assertEqual(mark_situations(program, "b", "b"), [(0, [0, 2, 0, 0, 0])])
        self.assertEqual(mark_situations(program, "a", "a"), [
            (0, [0, 0, 2, 0, 0]), (0, [1, 0, 1, 0, 0]), (0, [2, 0, 0, 0, 0]),
        ])

    def test_names_of_other_things(self):
        for first, second in itertools.product(["x", "here"], repeat=2):
            found = mark_situations(MIXED, first, second)
            self.assertEqual(found, Words(MIXED).marks(first, second))
            self.assertTrue(found)

    def test_in_no_kind(self):
        for first, second in [
            ("x", "y"), ("y", "x"), ("y", "y"), ("l", "here"), ("here", "c"), ("", "x"), ("x", ""),
            ("X", "here"), ("here ", "here"), ("v", "v"),
        ]:
            with self.assertRaises(OutOfRange):
                mark_situations(MIXED, first, second)
        with self.assertRaises(OutOfRange):
            mark_situations(([], [], [], [("c", None, [], [])]), "a", "a")

    def test_word_by_word(self):
        asked = 0
        for program in programs(80, seed=36):
            words = Words(program)
            marks = {
                row[1] for rows in words.statements for row in rows if row[0] == "mark"
            }
            for first, second in itertools.product(["here", "x", "there"], repeat=2):
                if {first, second} <= marks:
                    asked += 1
                    found = mark_situations(program, first, second)
                    self.assertEqual(found, words.marks(first, second))
                else:
                    with self.assertRaises(OutOfRange):
                        mark_situations(program, first, second)
        self.assertGreater(asked, 50)


class Races(unittest.TestCase):
    def check(self, lines, wanted, shares=("share x 0 1 0",)):
        """Compare pairs of points of one kind in the shared state 0."""
        program = parse_program(text_of(*shares, "kind c any", *["  " + line for line in lines], "end"))
        found = race_situations(program, "x")
        self.assertEqual(found, Words(program).race("x"))
        pairs = []
        for state, counts in found:
            if state == 0:
                pairs.append([at for at, count in enumerate(counts) for _ in range(count)])
        self.assertEqual(sorted(pairs), wanted)

    def test_set(self):
        self.check(["set x 1"], [[0, 0]])
        self.check(["set x + x 1"], [[0, 0]])
        self.check(["set x 1", "set x 0"], [[0, 0], [0, 1], [1, 1]])

    def test_read_only(self):
        self.check(["check = x 0", "check < x 1"], [])
        self.check(["set x 1", "check = x 0"], [[0, 0], [0, 1]])
        self.check(["check = x 0", "set x 1", "check < x 1"], [[0, 1], [1, 1], [1, 2]])

    def test_where_the_share_occurs(self):
        for line in [
            "set y x", "set y + 1 x", "set y * - 2 3 + 1 x", "check = x 5", "check not < 1 * 2 x",
            "await = x 0", "check and true or = 0 1 = 3 x", "check <= x x",
        ]:
            self.check(["set x 1", line], [[0, 0], [0, 1]], ["share x 0 1 0", "share y 0 1 0"])
        for line in ["set y 1", "set y + y 1", "check = y 0", "skip", "mark x", "check true"]:
            self.check(["set x 1", line], [[0, 0]], ["share x 0 1 0", "share y 0 1 0"])

    def test_conditions_of_if_and_loop(self):
        self.check(["if = x 0", "  skip", "else", "end", "set x 0"], [[0, 2], [2, 2]])
        self.check(["loop = x 0", "  skip", "end", "set x 0"], [[0, 2], [2, 2]])

    def test_bodies_do_not_count(self):
        self.check(["if true", "  set x 1", "else", "  check = x 0", "end"], [[1, 1], [1, 2]])
        self.check(["loop false", "  set x 1", "end"], [[1, 1]])
        self.check(["choose", "  set x 1", "or", "  check = x 0", "end"], [[1, 1], [1, 2]])

    def test_only_where_there_is_a_move(self):
        self.check(["await = x 1", "set x 1"], [[1, 1]])
        self.check(["await < x 1", "set x 1"], [[0, 1], [1, 1]])
        program = parse_program(text_of(
            "share x 0 1 0", "kind c any", "  await = x 1", "  set x 1", "end",
        ))
        self.assertEqual(race_situations(program, "x"), [
            (0, [0, 2, 0, 0]), (1, [0, 2, 0, 0]), (1, [1, 1, 0, 0]),
        ])

    def test_several_kinds_locals_and_locks(self):
        for share in ["x", "y"]:
            found = race_situations(MIXED, share)
            self.assertEqual(found, Words(MIXED).race(share))
            self.assertEqual(found, least_ones(found))
            self.assertTrue(found)

    def test_locks_are_not_looked_at(self):
        # That the lock is held by only one thread is what the answer tells, not the question.
        self.check(["acquire l", "set x 1", "release l"], [[1, 1]], ["share x 0 1 0", "lock l"])

    def test_not_a_share(self):
        for share in ["v", "l", "b", "c", "d", "here", "z", "", "X", "x ", "1"]:
            with self.assertRaises(OutOfRange):
                race_situations(MIXED, share)

    def test_word_by_word(self):
        for program in programs(80, seed=37):
            for share in program[0]:
                self.assertEqual(race_situations(program, share[0]), Words(program).race(share[0]))


def nest(*locks):
    """Statements that take locks one within another."""
    return [("acquire", lock) for lock in locks] + [("release", lock) for lock in reversed(locks)]


class Knots(unittest.TestCase):
    def check(self, locks, bodies, wanted, shares=()):
        kinds = [(f"k{at}", 1, [], body) for at, body in enumerate(bodies)]
        kinds[0] = (*kinds[0][:1], None, *kinds[0][2:])
        program = (list(shares), list(locks), [], kinds)
        words = Words(program)
        found = knot_situations(program)
        self.assertEqual(found, words.knots())
        told = {}
        for state, counts in found:
            spots = [words.spots[at] for at, count in enumerate(counts) if count]
            self.assertEqual(sum(counts), len(spots))
            held = " ".join(words.layout.state_values(state)[1])
            told.setdefault(held, []).append(spots)
        self.assertEqual({held: sorted(rows) for held, rows in told.items()}, wanted)

    def test_two_locks(self):
        self.check("ab", [nest("a", "b"), nest("b", "a")], {"a b": [[(0, 1), (1, 1)]]})
        self.check("ab", [nest("a", "b") + nest("b", "a")], {"a b": [[(0, 1), (0, 5)]]})

    def test_none(self):
        self.check("", [[("skip",)]], {})
        self.check("a", [nest("a")], {})
        self.check("ab", [nest("a", "b"), nest("a", "b")], {})
        self.check("ab", [nest("a"), nest("b")], {})
        self.check("abc", [nest("a", "b"), nest("b", "c"), nest("a", "c")], {})
        self.check("abc", [nest("a", "b", "c"), nest("a", "c")], {})

    def test_more_locks_may_be_held(self):
        self.check("abc", [nest("a", "b"), nest("b", "a")], {
            "a b": [[(0, 1), (1, 1)]], "a b c": [[(0, 1), (1, 1)]],
        })

    def test_three_locks(self):
        self.check("abc", [nest("a", "b"), nest("b", "c"), nest("c", "a")], {
            "a b c": [[(0, 1), (1, 1), (2, 1)]],
        })

    def test_four_locks(self):
        self.check("dbca", [nest("a", "b"), nest("b", "c"), nest("c", "d"), nest("d", "a")], {
            "d b c a": [[(0, 1), (1, 1), (2, 1), (3, 1)]],
        })

    def test_locks_that_are_no_part_of_the_ring(self):
        # Both threads hold one more lock than those for which they wait.
        self.check("abcd", [nest("c", "a", "b"), nest("d", "b", "a")], {
            "a b": [[(0, 2), (1, 2)]], "a b c": [[(0, 2), (1, 2)]],
            "a b d": [[(0, 2), (1, 2)]], "a b c d": [[(0, 2), (1, 2)]],
        })

    def test_longer_rings_with_shorter_ones_in_them(self):
        # a, b, c is a ring, too, but the thread that waits for a at its end holds b already.
        self.check("abc", [nest("a", "b"), nest("b", "c", "a")], {
            "a b": [[(0, 1), (1, 2)]], "a b c": [[(0, 1), (1, 2)]],
        })

    def test_rings_only_where_all_their_locks_are_held(self):
        self.check("abc", [nest("a", "b"), nest("b", "c"), nest("c", "a"), nest("b", "a")], {
            "a b": [[(0, 1), (3, 1)]],
            "a b c": [[(0, 1), (1, 1), (2, 1)], [(0, 1), (3, 1)]],
        })

    def test_several_places_and_states(self):
        body = [("set", "v", 1)] + nest("a", "b")
        program = ([("x", 0, 1, 0)], ["a", "b"], [], [
            ("c", None, [("v", 0, 1, 0)], body), ("d", 1, [], nest("b", "a") + nest("b", "a")),
        ])
        found = knot_situations(program)
        self.assertEqual(found, Words(program).knots())
        # Two values of x, two places of c with its locals, two points of d.
        self.assertEqual(len(found), 8)

    def test_in_bodies(self):
        program = (
            [], ["a", "b"], [],
            [("c", None, [], [("choose", [nest("a", "b"), [("loop", True, nest("b", "a"))]])])],
        )
        found = knot_situations(program)
        self.assertEqual(found, Words(program).knots())
        self.assertEqual(len(found), 1)

    def test_word_by_word(self):
        sizes = set()
        for seed in range(120):
            program = LockMaker(seed * 1000003 + 38).made()
            found = knot_situations(program)
            self.assertEqual(found, Words(program).knots())
            sizes |= {sum(counts) for _, counts in found}
        self.assertTrue(sizes >= {2, 3}, sizes)

    def test_six_locks_in_all_orders(self):
        program = ([], list("abcdef"), [], [
            ("c", None, [("v", 0, 1, 0)], [("choose", [nest(*"abcdef"), nest(*"fedcba")])]),
        ])
        found = knot_situations(program)
        # In the state in which all are held: a pair of places for each two locks.
        last = [counts for state, counts in found if state == 63]
        self.assertEqual(len(last), 15 * 4)
        self.assertEqual({sum(counts) for counts in last}, {2})
        self.assertEqual(found, least_ones(found))


class Values(unittest.TestCase):
    def test_new_lists(self):
        lockers = [LockMaker(seed).made() for seed in range(20)]
        for program in [MIXED, full_program()] + programs(20, seed=38) + lockers:
            before = copy.deepcopy(program)
            questions = [
                broken_situations, knot_situations,
                lambda one: race_situations(one, one[0][0][0]) if one[0] else [],
            ]
            if program == MIXED:
                questions.append(lambda one: mark_situations(one, "x", "x"))
            for question in questions:
                first, second = question(program), question(program)
                new_lists(self, (first, second), program)
                self.assertEqual(first, least_ones(first))
                spoil(first)
                self.assertEqual(program, before)
                self.assertEqual(question(program), second)
                for one in second:
                    self.assertIs(type(one), tuple)
                    self.assertIs(type(one[1]), list)
