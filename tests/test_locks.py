"""Promise 8: the proper use of locks."""

import unittest

from tests.samples import accepts, refuses, with_body

TAKE_L, GIVE_L = ("acquire", "l"), ("release", "l")
TAKE_M, GIVE_M = ("acquire", "m"), ("release", "m")
SKIP = ("skip",)
REST = ("rest", "b")


def choice(first, second, condition=True):
    """An if."""
    return ("if", condition, first, second)


def loop(body, condition=True):
    """A loop."""
    return ("loop", condition, body)


class Locks(unittest.TestCase):
    def proper(self, *bodies):
        for body in bodies:
            accepts(self, with_body(body), repr(body))
            accepts(self, self.in_other_kind(body), repr(body))

    def improper(self, *bodies):
        for body in bodies:
            refuses(self, with_body(body), repr(body))
            refuses(self, self.in_other_kind(body), repr(body))

    def in_other_kind(self, body):
        program = with_body([])
        program[3][1] = ("k", 1, [], body)
        return program

    def test_straight(self):
        self.proper(
            [TAKE_L, GIVE_L],
            [TAKE_L, SKIP, GIVE_L, SKIP],
            [TAKE_L, GIVE_L, TAKE_L, GIVE_L],
            [TAKE_L, GIVE_L, TAKE_M, GIVE_M],
            [TAKE_L, TAKE_M, GIVE_M, GIVE_L],
            [TAKE_L, TAKE_M, GIVE_L, GIVE_M],
            [TAKE_M, TAKE_L, GIVE_M, TAKE_M, GIVE_L, GIVE_M],
        )

    def test_taken_twice(self):
        self.improper(
            [TAKE_L, TAKE_L, GIVE_L],
            [TAKE_L, TAKE_L, GIVE_L, GIVE_L],
            [TAKE_L, TAKE_M, TAKE_L, GIVE_L, GIVE_M],
            [TAKE_L, choice([TAKE_L, GIVE_L], []), GIVE_L],
            [TAKE_L, loop([TAKE_L, GIVE_L]), GIVE_L],
            [TAKE_L, ("choose", [[], [TAKE_L, GIVE_L]]), GIVE_L],
        )

    def test_not_taken(self):
        self.improper(
            [GIVE_L],
            [GIVE_L, TAKE_L],
            [TAKE_L, GIVE_M],
            [TAKE_L, GIVE_L, GIVE_L],
            [TAKE_M, GIVE_L, GIVE_M],
            [TAKE_L, GIVE_L, choice([GIVE_L], [GIVE_L])],
        )

    def test_end_of_the_body(self):
        self.improper(
            [TAKE_L],
            [TAKE_L, SKIP],
            [TAKE_L, TAKE_M, GIVE_L],
            [TAKE_L, TAKE_M, GIVE_M],
            [choice([TAKE_L], [TAKE_L])],
            [("choose", [[TAKE_L]])],
            [("choose", [[TAKE_L], [TAKE_L]])],
        )

    def test_if(self):
        self.proper(
            [choice([TAKE_L, GIVE_L], [])],
            [choice([TAKE_L], [TAKE_L]), GIVE_L],
            [choice([SKIP, TAKE_L], [TAKE_L, SKIP, SKIP]), GIVE_L],
            [choice([TAKE_L, TAKE_M], [TAKE_M, TAKE_L]), GIVE_L, GIVE_M],
            [TAKE_L, choice([GIVE_L], [GIVE_L])],
            [TAKE_L, choice([GIVE_L, TAKE_L], []), GIVE_L],
            [TAKE_L, choice([GIVE_L, TAKE_M], [TAKE_M, GIVE_L]), GIVE_M],
            [TAKE_L, choice([], []), GIVE_L],
        )
        self.improper(
            [choice([TAKE_L], []), GIVE_L],
            [choice([], [TAKE_L]), GIVE_L],
            [choice([TAKE_L], [])],
            [choice([TAKE_L], [TAKE_M]), GIVE_L],
            [choice([TAKE_L, TAKE_M], [TAKE_M]), GIVE_M],
            [choice([TAKE_L, TAKE_M], [TAKE_L]), GIVE_L, GIVE_M],
            [TAKE_L, choice([GIVE_L], [])],
            [TAKE_L, choice([], [GIVE_L]), GIVE_L],
            [TAKE_L, choice([GIVE_L], []), GIVE_L],
        )

    def test_conditions_do_not_matter(self):
        for condition in [True, False, ("=", 1, 2), ("=", "x", "x")]:
            self.improper(
                [choice([TAKE_L], [], condition), choice([GIVE_L], [], condition)],
                [choice([GIVE_L], [], condition)],
                [loop([TAKE_L], condition)],
                [choice([], [GIVE_L], condition)],
                [TAKE_L, loop([], True), choice([GIVE_L], [], condition)],
            )
        self.improper([loop([SKIP], True), GIVE_L], [("await", False), GIVE_L],
                      [TAKE_L, ("check", False)], [TAKE_L, loop([SKIP], True)])

    def test_loop(self):
        self.proper(
            [loop([TAKE_L, GIVE_L])],
            [TAKE_L, loop([]), GIVE_L],
            [TAKE_L, loop([GIVE_L, TAKE_L]), GIVE_L],
            [TAKE_L, loop([TAKE_M, GIVE_M]), GIVE_L],
            [TAKE_L, TAKE_M, loop([GIVE_L, GIVE_M, TAKE_M, TAKE_L]), GIVE_L, GIVE_M],
        )
        self.improper(
            [loop([TAKE_L]), GIVE_L],
            [loop([TAKE_L])],
            [TAKE_L, loop([GIVE_L])],
            [TAKE_L, loop([GIVE_L]), GIVE_L],
            [TAKE_L, loop([GIVE_L, TAKE_M]), GIVE_M],
            [TAKE_L, loop([GIVE_L, TAKE_M]), GIVE_L],
            [loop([GIVE_L, TAKE_L])],
            [TAKE_L, loop([TAKE_M]), GIVE_L, GIVE_M],
        )

    def test_choose(self):
        self.proper(
            [("choose", [[TAKE_L, GIVE_L], [], [TAKE_M, GIVE_M]])],
            [("choose", [[TAKE_L]]), GIVE_L],
            [("choose", [[TAKE_L], [SKIP, TAKE_L], [TAKE_M, TAKE_L, GIVE_M]]), GIVE_L],
            [("choose", [[TAKE_L, TAKE_M], [TAKE_M, TAKE_L]]), GIVE_M, GIVE_L],
            [TAKE_L, ("choose", [[GIVE_L], [GIVE_L]])],
        )
        self.improper(
            [("choose", [[TAKE_L], []]), GIVE_L],
            [("choose", [[], [TAKE_L]]), GIVE_L],
            [("choose", [[TAKE_L], [TAKE_L], []]), GIVE_L],
            [("choose", [[TAKE_L], [TAKE_L], [TAKE_M]]), GIVE_L],
            [("choose", [[TAKE_M], [TAKE_L], [TAKE_L]]), GIVE_L],
            [("choose", [[], [], [TAKE_L, GIVE_M]]), GIVE_L],
            [TAKE_L, ("choose", [[GIVE_L], []])],
        )

    def test_each_body_begins_anew(self):
        self.improper(
            [choice([TAKE_L], [GIVE_L])],
            [("choose", [[TAKE_L], [GIVE_L]])],
            [TAKE_L, choice([GIVE_L], [TAKE_L]), GIVE_L],
        )
        program = with_body([TAKE_L])
        program[3][1] = ("k", 1, [], [GIVE_L])
        refuses(self, program)

    def test_rest(self):
        self.proper(
            [REST],
            [TAKE_L, GIVE_L, REST, TAKE_L, GIVE_L],
            [loop([REST])],
            [TAKE_L, choice([GIVE_L, REST, TAKE_L], []), GIVE_L],
        )
        self.improper(
            [TAKE_L, REST, GIVE_L],
            [TAKE_L, TAKE_M, GIVE_L, REST, GIVE_M],
            [TAKE_L, choice([REST], []), GIVE_L],
            [TAKE_L, choice([], [REST]), GIVE_L],
            [TAKE_L, loop([REST]), GIVE_L],
            [TAKE_L, ("choose", [[], [REST]]), GIVE_L],
            [choice([TAKE_L, REST, GIVE_L], [])],
        )

    def test_other_statements_with_locks(self):
        for inside in [SKIP, ("set", "x", 1), ("wake", "b"), ("start", "k"), ("check", True),
                       ("await", False), ("mark", "here")]:
            self.proper([TAKE_L, TAKE_M, inside, GIVE_L, inside, GIVE_M])

    def test_deep(self):
        inner = choice([GIVE_L, TAKE_M], [("choose", [[TAKE_M, GIVE_L], [GIVE_L, TAKE_M]])])
        self.proper([loop([TAKE_L, inner, GIVE_M])])
        self.improper([loop([TAKE_L, inner, GIVE_L])], [loop([TAKE_L, inner])],
                      [loop([TAKE_L, inner, GIVE_M, TAKE_M])])
