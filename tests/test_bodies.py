"""Promises 5 and 6: statements, values and conditions in right and in wrong forms."""

import unittest

from tests.samples import accepts, nested, refuses, with_body

NAMES = {
    "x": "variable", "v": "variable", "l": "lock", "m": "lock", "b": "bell", "c": "kind",
    "k": "kind", "w": "other local", "q": "nothing", "here": "mark", "skip": "word",
    "true": "nothing", "": "nothing",
}

NO_NAMES = [None, True, False, 0, 1, (), [], ("x",), ["x"], ("+", "x", 1)]

# Each wrong statement is wrong for itself, whatever stands around it.
WRONG_STATEMENTS = [
    None, True, 0, "skip", "", [], ["skip"], (), (None,), (True,), (0,), ("",), ("x",), ("SKIP",),
    ("pass",), (("skip",),), (["skip"],), ((),), ([],), ("end",), ("else",), ("or", []),
    ("when", True), ("share", "x"), ("local", "v", 0, 1, 0),
    ("skip", None), ("skip", 1), ("skip", "skip"), ("skip", []), ("skip", ()),
    ("set",), ("set", "x"), ("set", "x", 1, 1), ("set", 1, "x"), ("set", "x", None),
    ("set", "x", [1]), ("set", "x", True),
    ("acquire",), ("acquire", "l", "m"), ("acquire", ["l"]), ("acquire", None),
    ("release",), ("release", "l", "l"), ("rest",), ("rest", "b", "b"), ("rest", "b", None),
    ("wake",), ("wake", "b", "b"), ("wake", ["b"]), ("start",), ("start", "k", 1), ("start", 1),
    ("start", ("k", 1, [], [])),
    ("check",), ("check", True, True), ("check", None), ("check", 1), ("check", 0), ("check", "x"),
    ("await",), ("await", True, True), ("await", "x"), ("await", []), ("await", ()),
    ("mark",), ("mark", "here", "here"), ("mark", 1), ("mark", ("here",)), ("mark", "mark"),
    ("if",), ("if", True), ("if", True, []), ("if", [], []), ("if", True, [], [], []),
    ("if", [], [], True), ("if", True, [], None), ("if", True, None, []), ("if", True, (), []),
    ("if", True, [], ()), ("if", True, [], ("skip",)), ("if", True, ("skip",), []),
    ("if", True, [[]], []), ("if", True, [], [[("skip",)]]), ("if", 1, [], []),
    ("if", "x", [], []), ("if", None, [], []), ("if", True, True, []),
    ("loop",), ("loop", True), ("loop", []), ("loop", True, [], []), ("loop", True, None),
    ("loop", True, ()), ("loop", True, ("skip",)), ("loop", True, [[]]), ("loop", 0, []),
    ("loop", "x", []), ("loop", [], True), ("loop", True, "skip"),
    ("choose",), ("choose", []), ("choose", [], []), ("choose", [("skip",)]), ("choose", None),
    ("choose", ([],)), ("choose", [()]), ("choose", [[], ()]), ("choose", [[], None]),
    ("choose", [[[]]]), ("choose", True), ("choose", [[]], [[]]), ("choose", "x"),
]

RIGHT_STATEMENTS = [
    ("skip",), ("set", "x", 0), ("set", "v", "x"), ("wake", "b"), ("rest", "b"), ("start", "k"),
    ("start", "c"), ("check", True), ("check", ("<", "x", 1)), ("await", False),
    ("await", ("not", True)), ("mark", "a"), ("if", True, [], []), ("if", True, [("skip",)], []),
    ("if", False, [], [("skip",)]), ("loop", True, []), ("loop", False, [("skip",)]),
    ("choose", [[]]), ("choose", [[], []]), ("choose", [[("skip",)]]),
    ("choose", [[], [("skip",)], [], [("skip",), ("skip",)]]),
]

AROUND = {
    "alone": lambda part: [part],
    "first": lambda part: [part, ("skip",)],
    "last": lambda part: [("skip",), part],
    "then": lambda part: [("if", True, [part], [])],
    "else": lambda part: [("if", True, [], [part])],
    "loop": lambda part: [("loop", True, [("skip",), part])],
    "choose": lambda part: [("choose", [[], [part], []])],
    "deep": lambda part: [("loop", True, [("choose", [[("if", False, [], [part])]])])],
}

RIGHT_VALUES = [
    -99, 99, 0, -1, "x", "v", ("+", 1, 2), ("-", "x", -99), ("*", "v", 99), ("+", "x", "v"),
    ("*", ("+", "x", 1), ("-", "v", ("*", 2, 2))),
]

WRONG_VALUES = [
    -100, 100, 10 ** 30, True, False, None, "", "q", "w", "l", "b", "c", "here", "X", "1", "+",
    (), [], [1], (1,), ("x",), ("+",), ("+", 1), ("+", 1, 1, 1), ["+", 1, 1], ("+", True, 1),
    ("+", 1, False), ("-", None, 1), ("*", 1, "q"), ("*", "l", 1), ("+", 100, 0), ("+", 0, -100),
    ("-", 1), ("/", 1, 1), ("", 1, 1), (1, "+", 1), (None, 1, 1), (("+",), 1, 1), (["+"], 1, 1),
    ("=", 1, 1), ("<", 1, 1), ("not", True), ("and", True, True), ("+", ("<", 1, 1), 1),
    ("+", ("+", 1, ()), 1), ("++", 1, 1), ("set", "x", 1), ("skip",),
]

RIGHT_CONDITIONS = [
    True, False, ("not", True), ("and", True, False), ("or", False, False), ("=", 1, 1),
    ("<", "x", "v"), ("<=", -99, 99), ("not", ("not", ("=", "x", 0))),
    ("and", ("<", ("+", "x", 1), "v"), ("or", True, ("not", False))),
]

WRONG_CONDITIONS = [
    None, 0, 1, "", "x", "true", "True", (), [], [True], (True,), ("not",), ("not", True, True),
    ("not", 1), ("not", "x"), ("not", None), ("not", ()), ["not", True], ("and", True),
    ("and", True, True, True), ("and", 1, True), ("and", True, 0), ("or", True), ("or", "x", True),
    ("or", True, None), ("=", 1), ("=", 1, 1, 1), ("=", True, 1), ("=", 1, True),
    ("=", False, False), ("=", True, True), ("<", None, 1), ("<", 1, "q"), ("<", "w", 1),
    ("<=", "l", 1), ("<=", 1, 100), ("<=", -100, 1), (">", 1, 1), (">=", 1, 1), ("==", 1, 1),
    ("!=", 1, 1), ("+", 1, 1), ("=", ("=", 1, 1), 1), ("not", ("+", 1, 1)), (1, "=", 1),
    ("true",), ("xor", True, True), (("not",), True), (["not"], True), (None, True),
    ("if", True, [], []), ("check", True), ("when", True),
]


class Statements(unittest.TestCase):
    def test_right_ones(self):
        for place, around in AROUND.items():
            for statement in RIGHT_STATEMENTS:
                accepts(self, with_body(around(statement)), f"{place} {statement}")

    def test_wrong_ones(self):
        for place, around in AROUND.items():
            for statement in WRONG_STATEMENTS:
                refuses(self, with_body(around(statement)), f"{place} {statement}")

    def test_empty_body(self):
        accepts(self, with_body([]))

    def test_locks_within(self):
        pair = [("acquire", "l"), ("release", "l")]
        accepts(self, with_body(pair + [("loop", True, pair), ("choose", [pair, []])]))

    def test_other_kinds_too(self):
        for statement in RIGHT_STATEMENTS:
            if "v" not in statement:
                program = with_body([])
                program[3][1] = ("k", 2, [("v", 0, 1, 0)], [statement])
                accepts(self, program, repr(statement))
        for statement in WRONG_STATEMENTS:
            program = with_body([])
            program[3][1] = ("k", 2, [("v", 0, 1, 0)], [statement])
            refuses(self, program, repr(statement))


class References(unittest.TestCase):
    def each_name(self, word, sort):
        for place, around in AROUND.items():
            for name, known in NAMES.items():
                check = accepts if known == sort else refuses
                check(self, with_body(around(self.made(word, name))), f"{word} {name} {place}")
            for name in NO_NAMES:
                refuses(self, with_body(around(self.made(word, name))), f"{word} {name} {place}")

    def made(self, word, name):
        return (word, name, 1) if word == "set" else (word, name)

    def test_set(self):
        self.each_name("set", "variable")

    def test_rest_and_wake(self):
        self.each_name("rest", "bell")
        self.each_name("wake", "bell")

    def test_start(self):
        self.each_name("start", "kind")

    def test_acquire_and_release(self):
        for name, sort in NAMES.items():
            check = accepts if sort == "lock" else refuses
            check(self, with_body([("acquire", name), ("release", name)]), name)
        for name in NO_NAMES:
            refuses(self, with_body([("acquire", name), ("release", name)]), repr(name))
            refuses(self, with_body([("acquire", "l"), ("release", name)]), repr(name))
            refuses(self, with_body([("acquire", name), ("release", "l")]), repr(name))

    def test_wrong_forms_of_acquire_and_release(self):
        take, give = ("acquire", "l"), ("release", "l")
        accepts(self, with_body([take, give]))
        for wrong in [("acquire", "l", "l"), ("acquire", "l", None), ["acquire", "l"]]:
            refuses(self, with_body([wrong, give]), repr(wrong))
        for wrong in [("release", "l", "l"), ("release", "l", None), ["release", "l"]]:
            refuses(self, with_body([take, wrong]), repr(wrong))

    def test_names_in_values(self):
        for name, sort in NAMES.items():
            check = accepts if sort == "variable" else refuses
            check(self, with_body([("set", "x", name)]), name)
            check(self, with_body([("set", "x", ("*", 1, name))]), name)
            check(self, with_body([("check", ("=", name, 1))]), name)

    def test_locals_belong_to_their_kind(self):
        for name, crew_may, other_may in [("v", True, False), ("w", False, True), ("x", True, True)]:
            program = with_body([("set", name, 1)])
            (accepts if crew_may else refuses)(self, program, name)
            program = with_body([])
            program[3][1] = ("k", 2, [("w", 0, 1, 1)], [("set", name, 1)])
            (accepts if other_may else refuses)(self, program, name)

    def test_later_kinds(self):
        crew = ("c", None, [], [("start", "d"), ("start", "c")])
        accepts(self, ([], [], [], [crew, ("d", 0, [], [("start", "c"), ("start", "d")])]))
        refuses(self, ([], [], [], [crew, ("e", 0, [], [])]))


class Values(unittest.TestCase):
    def places(self, value):
        return {
            "set": ("set", "x", value),
            "left": ("check", ("=", value, 1)),
            "right": ("await", ("<=", 1, value)),
            "if": ("if", ("not", ("<", value, 1)), [], []),
            "loop": ("loop", ("and", True, ("=", value, 1)), []),
            "within": ("set", "v", ("-", 1, ("+", value, 1))),
        }

    def check_all(self, check, values):
        for value in values:
            for place, statement in self.places(value).items():
                for outside, around in AROUND.items():
                    body = around(statement)
                    check(self, with_body(body), f"{outside} {place} {value!r}")

    def test_right_ones(self):
        self.check_all(accepts, RIGHT_VALUES)

    def test_wrong_ones(self):
        self.check_all(refuses, WRONG_VALUES)


class Conditions(unittest.TestCase):
    def places(self, condition):
        return {
            "check": ("check", condition),
            "await": ("await", condition),
            "if": ("if", condition, [], []),
            "loop": ("loop", condition, []),
            "not": ("check", ("not", condition)),
            "and": ("await", ("and", condition, True)),
            "or": ("if", ("or", False, condition), [], []),
        }

    def check_all(self, check, conditions):
        for condition in conditions:
            for place, statement in self.places(condition).items():
                for outside, around in AROUND.items():
                    body = around(statement)
                    check(self, with_body(body), f"{outside} {place} {condition!r}")

    def test_right_ones(self):
        self.check_all(accepts, RIGHT_CONDITIONS)

    def test_wrong_ones(self):
        self.check_all(refuses, WRONG_CONDITIONS)


class Depths(unittest.TestCase):
    def both(self, make, deepest, note):
        accepts(self, with_body([make(deepest)]), note)
        refuses(self, with_body([make(deepest + 1)]), note)
        refuses(self, with_body([make(deepest + 2)]), note)
        refuses(self, with_body([make(1000)]), note)

    def test_values(self):
        # A value that is no tuple has depth 1, so ten deep is nine times a tuple.
        for core in [0, "x"]:
            for sign in "+-*":
                left = lambda times: nested(times, lambda value: (sign, value, 1), core)
                right = lambda times: nested(times, lambda value: (sign, 1, value), core)
                for value in [left, right]:
                    self.both(lambda times: ("set", "x", value(times)), 9, sign)

    def test_values_in_conditions(self):
        # The comparison itself is one of the ten.
        left = lambda times: nested(times, lambda value: ("+", value, 1), 0)
        for sign in ["=", "<", "<="]:
            self.both(lambda times: ("check", (sign, left(times), 1)), 8, sign)
            self.both(lambda times: ("await", (sign, 1, left(times))), 8, sign)
        self.both(lambda times: ("check", ("not", ("=", 1, left(times)))), 7, "not")
        self.both(lambda times: ("check", ("and", True, ("=", 1, left(times)))), 7, "and")

    def test_conditions(self):
        for core in [True, False]:
            for name, wrap in [
                ("not", lambda inner: ("not", inner)),
                ("and left", lambda inner: ("and", inner, True)),
                ("and right", lambda inner: ("and", True, inner)),
                ("or left", lambda inner: ("or", inner, True)),
                ("or right", lambda inner: ("or", False, inner)),
            ]:
                deep = lambda times: nested(times, wrap, core)
                self.both(lambda times: ("check", deep(times)), 9, name)
                self.both(lambda times: ("await", deep(times)), 9, name)
                self.both(lambda times: ("if", deep(times), [], []), 9, name)
                self.both(lambda times: ("loop", deep(times), []), 9, name)

    def test_comparison_within_conditions(self):
        deep = lambda times: nested(times, lambda inner: ("not", inner), ("=", 1, 1))
        self.both(lambda times: ("check", deep(times)), 8, "comparison")

    def test_full_trees(self):
        tree = lambda times: nested(times, lambda inner: ("and", inner, inner), True)
        accepts(self, with_body([("check", tree(9))]))
        refuses(self, with_body([("check", tree(10))]))

    def test_statements(self):
        wraps = {
            "then": lambda inner: ("if", True, [inner], []),
            "else": lambda inner: ("if", True, [], [inner]),
            "loop": lambda inner: ("loop", True, [inner]),
            "choose": lambda inner: ("choose", [[inner]]),
            "choose first": lambda inner: ("choose", [[inner], []]),
            "choose last": lambda inner: ("choose", [[], [("skip",), inner]]),
        }
        cores = {
            "skip": ("skip",),
            "empty if": ("if", True, [], []),
            "empty loop": ("loop", True, []),
            "empty choose": ("choose", [[], []]),
        }
        for name, wrap in wraps.items():
            for inside, core in cores.items():
                self.both(lambda times: nested(times, wrap, core), 9, f"{name} {inside}")

    def test_deepest_statement_of_several(self):
        deep = lambda times: nested(times, lambda inner: ("loop", True, [inner]), ("skip",))
        flat = ("skip",)
        self.both(lambda times: ("if", True, [flat], [flat, deep(times), flat]), 8, "if")
        self.both(lambda times: ("choose", [[flat], [deep(times)], []]), 8, "choose")

    def test_depths_are_counted_each_for_itself(self):
        value = nested(9, lambda inner: ("+", inner, 1), 0)
        condition = nested(9, lambda inner: ("not", inner), True)
        wrap = lambda inner: ("loop", condition, [inner])
        accepts(self, with_body([nested(9, wrap, ("set", "x", value))]))
        accepts(self, with_body([nested(9, wrap, ("check", condition))]))
        accepts(self, with_body([("set", "x", value), ("check", condition), ("set", "x", value)]))
