"""Promises 13 and 14, and what the interface says of legion/flow.py."""

import copy
import itertools
import unittest

from legion.flow import held_at, lines_of, marks_of, points_of, steps_of
from tests.samples import FULL_BODY, FULL_TEXT, accepts, kind_with, nested, with_body

SKIP = ("skip",)
COND = ("<", "x", 1)
YES = ("when", COND)
NO = ("when", ("not", COND))
FUNCTIONS = [steps_of, points_of, marks_of, held_at, lines_of]


class Points(unittest.TestCase):
    def check(self, body, count, end, broken, rests):
        self.assertEqual(points_of(kind_with(body)), (count, end, broken, rests), body)

    def test_empty_body(self):
        self.check([], 2, 0, 1, [])

    def test_straight(self):
        self.check([SKIP], 3, 1, 2, [])
        self.check([SKIP, ("check", COND), ("mark", "a")], 5, 3, 4, [])

    def test_nested(self):
        self.check([("if", COND, [], [])], 3, 1, 2, [])
        self.check([("if", COND, [SKIP], [SKIP, SKIP])], 6, 4, 5, [])
        self.check([("loop", COND, [("choose", [[SKIP], [], [SKIP]])]), SKIP], 7, 5, 6, [])

    def test_rests(self):
        self.check([("rest", "b")], 4, 1, 3, [("b", 2, 1)])
        self.check([("rest", "b"), ("rest", "d")], 6, 2, 5, [("b", 3, 1), ("d", 4, 2)])
        self.check([("rest", "d"), SKIP, ("rest", "b"), SKIP], 8, 4, 7, [("d", 5, 1), ("b", 6, 3)])
        self.check([("rest", "b"), ("rest", "b")], 6, 2, 5, [("b", 3, 1), ("b", 4, 2)])

    def test_nested_rests(self):
        rest = ("rest", "b")
        self.check([("loop", COND, [rest]), SKIP], 6, 3, 5, [("b", 4, 0)])
        self.check([("loop", COND, [rest, SKIP])], 6, 3, 5, [("b", 4, 2)])
        self.check([("if", COND, [rest], [rest]), SKIP], 8, 4, 7, [("b", 5, 3), ("b", 6, 3)])
        self.check([("choose", [[rest, SKIP], [], [SKIP, rest]])], 9, 5, 8,
                   [("b", 6, 2), ("b", 7, 5)])
        body = [("if", COND, [("loop", COND, [("rest", "e"), ("rest", "d")])], [SKIP]), rest]
        self.check(body, 11, 6, 10, [("e", 7, 3), ("d", 8, 1), ("b", 9, 6)])

    def test_kinds_of_values(self):
        count, end, broken, rests = points_of(kind_with([("rest", "b")]))
        self.assertIs(type(points_of(kind_with([]))), tuple)
        self.assertIs(type(rests), list)
        self.assertIs(type(rests[0]), tuple)


class Steps(unittest.TestCase):
    def check(self, body, steps):
        self.assertEqual(steps_of(kind_with(body)), steps, body)

    def test_empty_body(self):
        self.check([], [])

    def test_plain_statements(self):
        for statement in [
            SKIP, ("set", "x", ("+", "x", 1)), ("acquire", "l"), ("release", "l"), ("wake", "b"),
            ("start", "k"), ("mark", "here"),
        ]:
            self.check([statement], [(0, statement, 1)])
            self.check([statement, SKIP], [(0, statement, 1), (1, SKIP, 2)])
            self.check([SKIP, statement], [(0, SKIP, 1), (1, statement, 2)])

    def test_check(self):
        self.check([("check", COND)], [(0, YES, 1), (0, NO, 2)])
        self.check([("check", COND), SKIP], [(0, YES, 1), (0, NO, 3), (1, SKIP, 2)])
        self.check([("check", True), ("rest", "b")], [
            (0, ("when", True), 1), (0, ("when", ("not", True)), 4), (1, ("rest", "b"), 3),
        ])

    def test_conditions_are_kept(self):
        for condition in [False, ("not", False), ("not", ("not", COND)), ("or", COND, True)]:
            self.check([("check", condition)], [
                (0, ("when", condition), 1), (0, ("when", ("not", condition)), 2),
            ])
            self.check([("await", condition)], [(0, ("when", condition), 1)])

    def test_await(self):
        self.check([("await", COND), ("await", True)], [(0, YES, 1), (1, ("when", True), 2)])

    def test_if(self):
        self.check([("if", COND, [SKIP], [SKIP])],
                   [(0, YES, 1), (0, NO, 2), (1, SKIP, 3), (2, SKIP, 3)])
        self.check([("if", COND, [SKIP, SKIP], [SKIP]), SKIP], [
            (0, YES, 1), (0, NO, 3), (1, SKIP, 2), (2, SKIP, 4), (3, SKIP, 4), (4, SKIP, 5),
        ])

    def test_if_with_empty_bodies(self):
        self.check([("if", COND, [], [])], [(0, YES, 1), (0, NO, 1)])
        self.check([("if", COND, [], []), SKIP], [(0, YES, 1), (0, NO, 1), (1, SKIP, 2)])
        self.check([("if", COND, [SKIP], [])], [(0, YES, 1), (0, NO, 2), (1, SKIP, 2)])
        self.check([("if", COND, [], [SKIP])], [(0, YES, 2), (0, NO, 1), (1, SKIP, 2)])
        self.check([("if", COND, [], [SKIP, SKIP]), SKIP],
                   [(0, YES, 3), (0, NO, 1), (1, SKIP, 2), (2, SKIP, 3), (3, SKIP, 4)])

    def test_loop(self):
        self.check([("loop", COND, [SKIP])], [(0, YES, 1), (0, NO, 2), (1, SKIP, 0)])
        self.check([SKIP, ("loop", COND, [SKIP, SKIP]), SKIP], [
            (0, SKIP, 1), (1, YES, 2), (1, NO, 4), (2, SKIP, 3), (3, SKIP, 1), (4, SKIP, 5),
        ])

    def test_loop_with_empty_body(self):
        self.check([("loop", COND, [])], [(0, YES, 0), (0, NO, 1)])
        self.check([SKIP, ("loop", COND, []), SKIP],
                   [(0, SKIP, 1), (1, YES, 1), (1, NO, 2), (2, SKIP, 3)])

    def test_choose(self):
        self.check([("choose", [[SKIP]])], [(0, SKIP, 1), (1, SKIP, 2)])
        self.check([("choose", [[SKIP, SKIP], [("mark", "a")]]), SKIP], [
            (0, SKIP, 1), (0, SKIP, 3), (1, SKIP, 2), (2, SKIP, 4), (3, ("mark", "a"), 4),
            (4, SKIP, 5),
        ])

    def test_choose_with_empty_bodies(self):
        self.check([("choose", [[]])], [(0, SKIP, 1)])
        self.check([("choose", [[], []])], [(0, SKIP, 1), (0, SKIP, 1)])
        self.check([("choose", [[], [SKIP], [], [SKIP]]), SKIP], [
            (0, SKIP, 3), (0, SKIP, 1), (0, SKIP, 3), (0, SKIP, 2), (1, SKIP, 3), (2, SKIP, 3),
            (3, SKIP, 4),
        ])

    def test_rest(self):
        rest, other = ("rest", "b"), ("rest", "d")
        self.check([rest], [(0, rest, 2)])
        self.check([rest, SKIP, other, rest], [(0, rest, 5), (1, SKIP, 2), (2, other, 6), (3, rest, 7)])
        self.check([("loop", COND, [rest]), other],
                   [(0, YES, 1), (0, NO, 2), (1, rest, 4), (2, other, 5)])
        self.check([("if", COND, [("check", COND)], [rest])],
                   [(0, YES, 1), (0, NO, 2), (1, YES, 3), (1, NO, 5), (2, rest, 4)])

    def test_last_statements_of_bodies(self):
        self.check([("loop", COND, [("if", COND, [], [])])],
                   [(0, YES, 1), (0, NO, 2), (1, YES, 0), (1, NO, 0)])
        self.check([("loop", COND, [("if", COND, [SKIP], [SKIP])]), SKIP], [
            (0, YES, 1), (0, NO, 4), (1, YES, 2), (1, NO, 3), (2, SKIP, 0), (3, SKIP, 0),
            (4, SKIP, 5),
        ])
        self.check([("loop", COND, [("choose", [[], [SKIP]])])],
                   [(0, YES, 1), (0, NO, 3), (1, SKIP, 0), (1, SKIP, 2), (2, SKIP, 0)])
        self.check([("loop", COND, [("loop", COND, [])])],
                   [(0, YES, 1), (0, NO, 2), (1, YES, 1), (1, NO, 0)])
        self.check([("loop", COND, [("loop", COND, [SKIP])])],
                   [(0, YES, 1), (0, NO, 3), (1, YES, 2), (1, NO, 0), (2, SKIP, 1)])
        self.check([("if", COND, [("loop", COND, [SKIP])], [("choose", [[]])]), SKIP], [
            (0, YES, 1), (0, NO, 3), (1, YES, 2), (1, NO, 4), (2, SKIP, 1), (3, SKIP, 4),
            (4, SKIP, 5),
        ])
        self.check([("choose", [[("if", COND, [], [SKIP])], [("loop", COND, [])]]), SKIP], [
            (0, SKIP, 1), (0, SKIP, 3), (1, YES, 4), (1, NO, 2), (2, SKIP, 4), (3, YES, 3),
            (3, NO, 4), (4, SKIP, 5),
        ])

    def test_checks_in_the_depth(self):
        body = nested(9, lambda inner: ("loop", COND, [inner]), ("check", COND))
        steps = steps_of(kind_with([body]))
        self.assertEqual(steps[-2:], [(9, YES, 8), (9, NO, 11)])
        self.assertEqual(steps[:4], [(0, YES, 1), (0, NO, 10), (1, YES, 2), (1, NO, 0)])

    def test_everything(self):
        part = FULL_BODY
        self.check(part, [
            (0, SKIP, 1), (1, part[1], 2), (2, part[2], 3), (3, ("acquire", "l"), 4),
            (4, ("when", part[4][1]), 5), (4, ("when", ("not", part[4][1])), 6),
            (5, ("release", "l"), 8), (6, ("wake", "b"), 7), (7, ("release", "l"), 8),
            (8, ("rest", "b"), 19), (9, ("start", "k"), 10),
            (10, ("when", part[7][1]), 11), (10, ("when", ("not", part[7][1])), 20),
            (11, ("when", part[8][1]), 12), (12, ("mark", "here"), 13),
            (13, ("when", True), 14), (13, ("when", ("not", True)), 17),
            (14, SKIP, 13), (14, SKIP, 15), (14, SKIP, 16), (15, SKIP, 13),
            (16, ("when", False), 16), (16, ("when", ("not", False)), 13),
            (17, ("when", False), 18), (17, ("when", ("not", False)), 18),
        ])
        self.assertEqual(points_of(kind_with(part)), (21, 18, 20, [("b", 19, 9)]))


def moves_from(rest):
    """What a thread may do next, and what is left then, told from the text alone.

    rest is a tuple of the statements that are left; a loop puts itself back.
    """
    if not rest:
        return []
    statement, later = rest[0], rest[1:]
    word = statement[0]
    if word == "if":
        return [(("when", statement[1]), tuple(statement[2]) + later),
                (("when", ("not", statement[1])), tuple(statement[3]) + later)]
    if word == "loop":
        return [(("when", statement[1]), tuple(statement[2]) + rest),
                (("when", ("not", statement[1])), later)]
    if word == "choose":
        return [(SKIP, tuple(body) + later) for body in statement[1]]
    if word == "check":
        return [(("when", statement[1]), later), (("when", ("not", statement[1])), ())]
    if word == "await":
        return [(("when", statement[1]), later)]
    return [(statement, later)]


class AgainstTheText(unittest.TestCase):
    """The steps allow just the sequences of actions that the text allows."""

    def bodies(self):
        simple = [[], [("mark", "a")], [("rest", "b"), ("check", COND)]]
        inner = []
        for one, other in itertools.product(simple, simple):
            inner.append([("if", COND, one, other)])
            inner.append([("choose", [one, other]), ("mark", "d")])
        for body in simple:
            inner.append([("loop", COND, body)])
            inner.append([("loop", True, body), ("mark", "e")])
        yield from inner
        for one, other in itertools.product(inner, inner[::3] + simple):
            yield [("loop", ("=", "x", 2), one), ("if", ("=", "x", 3), other, one)]
            yield [("choose", [one, [], other, one]), ("set", "x", 1)]

    def test_all(self):
        for body in self.bodies():
            kind = kind_with(body)
            steps = steps_of(kind)
            count, end, broken, rests = points_of(kind)
            self.assertEqual([step[0] for step in steps], sorted([step[0] for step in steps]))
            followers = {resting: follower for _, resting, follower in rests}
            self.compare(steps, followers, tuple(body), {end, broken})

    def compare(self, steps, followers, body, last):
        pairs = [(0, body)]
        seen = {repr(pair) for pair in pairs}
        for point, rest in pairs:
            found = [(action, target) for at, action, target in steps if at == point]
            moves = moves_from(rest)
            self.assertEqual([move[0] for move in found], [move[0] for move in moves])
            self.assertEqual(not rest, point in last)
            for (_, target), (_, left) in zip(found, moves):
                pair = (followers.get(target, target), left)
                if repr(pair) not in seen:
                    seen.add(repr(pair))
                    pairs.append(pair)


class Marks(unittest.TestCase):
    def test_none(self):
        self.assertEqual(marks_of(kind_with([])), [])
        self.assertEqual(marks_of(kind_with([SKIP, ("loop", COND, [SKIP])])), [])

    def test_order_and_repeats(self):
        body = [
            ("mark", "z"), SKIP, ("mark", "a"), ("loop", COND, [("mark", "z")]),
            ("if", COND, [("mark", "q")], [SKIP, ("mark", "p")]),
            ("choose", [[], [("mark", "a")], [("mark", "z")]]),
        ]
        self.assertEqual(marks_of(kind_with(body)), [
            ("z", 0), ("a", 2), ("z", 4), ("q", 6), ("p", 8), ("a", 10), ("z", 11),
        ])

    def test_names_of_other_things(self):
        body = [("mark", "x"), ("set", "x", 1), ("mark", "l"), ("wake", "b")]
        self.assertEqual(marks_of(kind_with(body)), [("x", 0), ("l", 2)])


class Held(unittest.TestCase):
    take_l, give_l = ("acquire", "l"), ("release", "l")
    take_m, give_m = ("acquire", "m"), ("release", "m")

    def check(self, body, held):
        accepts(self, with_body(body))
        self.assertEqual(held_at(kind_with(body)), [list(names) for names in held], body)

    def test_no_locks(self):
        self.check([], ["", ""])
        self.check([SKIP, ("check", COND)], ["", "", "", ""])

    def test_before_the_step(self):
        self.check([self.take_l, SKIP, self.give_l, SKIP], ["", "l", "l", "", "", ""])

    def test_ascending_names(self):
        self.check([self.take_m, self.take_l, SKIP, self.give_m, self.give_l],
                   ["", "m", "lm", "lm", "l", "", ""])

    def test_not_in_reverse_order(self):
        self.check([self.take_l, self.take_m, self.give_l, SKIP, self.give_m],
                   ["", "l", "lm", "m", "m", "", ""])

    def test_taken_in_both_bodies(self):
        self.check([("if", COND, [self.take_l], [SKIP, self.take_l]), SKIP, self.give_l],
                   ["", "", "", "", "l", "l", "", ""])
        self.check([("if", COND, [self.take_l, self.take_m], [self.take_m, self.take_l]),
                    self.give_m, self.give_l],
                   ["", "", "l", "", "m", "lm", "l", "", ""])

    def test_given_back_in_bodies(self):
        self.check([self.take_l, ("if", COND, [self.give_l], [SKIP, self.give_l]), SKIP],
                   ["", "l", "l", "l", "l", "", "", ""])

    def test_loop_and_choose(self):
        self.check([self.take_l, ("loop", COND, [self.give_l, SKIP, self.take_l]), self.give_l],
                   ["", "l", "l", "", "", "l", "", ""])
        self.check([("choose", [[self.take_l], [self.take_m, self.take_l, self.give_m], [self.take_l]]),
                    ("loop", COND, []), self.give_l],
                   ["", "", "", "m", "lm", "", "l", "l", "", ""])

    def test_rests(self):
        self.check([self.take_l, self.give_l, ("rest", "b"), self.take_m, self.give_m, ("rest", "b")],
                   ["", "l", "", "", "m", "", "", "", "", ""])
        self.check([self.take_l, ("if", COND, [self.give_l, ("rest", "b"), self.take_l], []),
                    self.give_l],
                   ["", "l", "l", "", "", "l", "", "", ""])

    def test_broken_point_with_locks(self):
        self.check([self.take_l, ("check", COND), self.give_l], ["", "l", "l", "", ""])

    def test_one_item_for_each_point(self):
        for body in [[], [("rest", "b")] * 3, FULL_BODY]:
            kind = kind_with(body)
            self.assertEqual(len(held_at(kind)), points_of(kind)[0])


class Lines(unittest.TestCase):
    def check(self, body, lines):
        self.assertEqual(lines_of(kind_with(body)), lines, body)

    def test_empty_body(self):
        self.check([], [])

    def test_statements(self):
        for statement, line in [
            (SKIP, "skip"), (("set", "x", 5), "set x 5"), (("set", "v", "x"), "set v x"),
            (("acquire", "l"), "acquire l"), (("release", "l"), "release l"),
            (("rest", "b"), "rest b"), (("wake", "b"), "wake b"), (("start", "k"), "start k"),
            (("check", COND), "check < x 1"), (("await", COND), "await < x 1"),
            (("mark", "a"), "mark a"), (("if", COND, [], []), "if < x 1"),
            (("loop", COND, []), "loop < x 1"), (("choose", [[], []]), "choose"),
        ]:
            self.check([statement], [line])

    def test_values(self):
        for value, words in [
            (0, "0"), (-1, "-1"), (-99, "-99"), (99, "99"), ("x", "x"), ("true", "true"),
            (("+", 1, "y"), "+ 1 y"), (("-", "x", -1), "- x -1"), (("*", -2, -3), "* -2 -3"),
            (("-", ("-", 1, 2), ("+", "x", ("*", 3, 4))), "- - 1 2 + x * 3 4"),
        ]:
            self.check([("set", "x", value)], ["set x " + words])

    def test_conditions(self):
        for condition, words in [
            (True, "true"), (False, "false"), (("not", True), "not true"),
            (("and", False, True), "and false true"), (("or", True, COND), "or true < x 1"),
            (("=", "x", 0), "= x 0"), (("<=", -1, "x"), "<= -1 x"),
            (("<", "x", ("+", 1, "y")), "< x + 1 y"), (("=", 1, 0), "= 1 0"),
            (("not", ("and", ("not", ("=", 0, 1)), False)), "not and not = 0 1 false"),
        ]:
            self.check([("check", condition)], ["check " + words])
            self.check([("await", condition)], ["await " + words])
            self.check([("if", condition, [], [])], ["if " + words])
            self.check([("loop", condition, [])], ["loop " + words])

    def test_order(self):
        self.check(
            [
                ("if", COND, [("mark", "a")], [("loop", True, [("mark", "b")]), ("mark", "c")]),
                ("choose", [[("mark", "d")], [], [("mark", "e"), ("mark", "f")]]),
                ("mark", "g"),
            ],
            ["if < x 1", "mark a", "loop true", "mark b", "mark c", "choose", "mark d", "mark e",
             "mark f", "mark g"],
        )

    def test_everything(self):
        crew = FULL_TEXT.split("kind c any\n")[1].split("\nend\n")[0]
        lines = [line.strip() for line in crew.split("\n")]
        others = ["local v -1 1 0", "else", "or", "end"]
        self.check(FULL_BODY, [line for line in lines if line not in others])


class Lists(unittest.TestCase):
    """Promise 2: nothing is changed, and no list is shared."""

    bodies = [
        [],
        [("rest", "b"), ("rest", "b")],
        FULL_BODY,
        [("acquire", "l"), ("acquire", "m"), SKIP, SKIP, ("choose", [[], [SKIP]]),
         ("release", "m"), ("release", "l")],
    ]

    def lists_in(self, thing):
        found = [thing] if isinstance(thing, list) else []
        if isinstance(thing, (list, tuple)):
            for part in thing:
                found.extend(self.lists_in(part))
        return found

    def test_arguments_are_not_changed(self):
        for body in self.bodies:
            kind = kind_with(copy.deepcopy(body))
            before = copy.deepcopy(kind)
            for function in FUNCTIONS:
                function(kind)
                self.assertEqual(kind, before, function)

    def test_no_list_occurs_twice(self):
        for body in self.bodies:
            kind = kind_with(copy.deepcopy(body))
            passed = {id(one) for one in self.lists_in(kind)}
            for function in FUNCTIONS:
                first, second = self.lists_in(function(kind)), self.lists_in(function(kind))
                both = [id(one) for one in first + second]
                self.assertEqual(len(both), len(set(both)), function)
                self.assertFalse(passed & set(both), function)

    def test_later_changes_have_no_effect(self):
        for body in self.bodies:
            for function in FUNCTIONS:
                kind = kind_with(copy.deepcopy(body))
                first = function(kind)
                kept = copy.deepcopy(first)
                second = function(kind)
                for one in self.lists_in(second):
                    one.append("more")
                self.assertEqual(first, kept, function)
                self.assertEqual(function(kind), kept, function)
                for one in self.lists_in(kind):
                    one.clear()
                self.assertEqual(first, kept, function)

    def test_no_lists_within_steps(self):
        for body in self.bodies:
            for step in steps_of(kind_with(body)):
                self.assertEqual(self.lists_in(step), [])
