"""Promise 9: how small a valid program is, at each bound and one beyond it."""

import unittest

from legion.written import program_lines
from tests.samples import FULL_BODY, FULL_TEXT, accepts, full_program, nested, refuses

CREW = ("c", None, [], [])


def with_shares(*sizes, locks=0):
    """A program with shares of so many values, and so many locks."""
    shares = [(f"s{at}", 5 - size, 4, 4) for at, size in enumerate(sizes)]
    return (shares, [f"l{at}" for at in range(locks)], [], [CREW])


def text_of(program):
    """The written form, for valid programs."""
    return "".join([line + "\n" for line in program_lines(program)])


def shares_of_length(length):
    """Shares with one value whose lines have exactly so many characters, at least 17."""
    shares = []
    while length > 0:
        # A line has 13 characters besides the name, which has from 4 to 20 here.
        line = min(33, length)
        if 0 < length - line < 17:
            line = 17
        name = f"f{len(shares):03d}" + "f" * (line - 17)
        shares.append((name, 0, 0, 0))
        length -= line
    return shares


class States(unittest.TestCase):
    def test_one_share(self):
        for size in [1, 2, 63, 64]:
            accepts(self, with_shares(size))
        for size in [65, 66, 100]:
            refuses(self, with_shares(size))

    def test_negative_ranges(self):
        for least in [-99, -64, -1, 36]:
            accepts(self, ([("x", least, least + 63, least)], [], [], [CREW]))
        for least in [-99, -64, -1, 35]:
            refuses(self, ([("x", least, least + 64, least)], [], [], [CREW]))
        refuses(self, ([("x", -99, 99, 0)], [], [], [CREW]))

    def test_several_shares(self):
        for sizes in [(8, 8), (2, 32), (4, 4, 4), (2, 2, 2, 2, 2, 2), (1, 64, 1), (7, 9), (3, 21)]:
            accepts(self, with_shares(*sizes))
        for sizes in [(8, 9), (5, 13), (2, 33), (2, 2, 2, 2, 2, 2, 2), (65, 1), (4, 4, 5)]:
            refuses(self, with_shares(*sizes))

    def test_locks_count(self):
        for sizes, locks in [((32,), 1), ((16,), 2), ((4, 2), 3), ((2,), 5), ((1, 1), 6), ((), 6),
                             ((31,), 1), ((3,), 4)]:
            accepts(self, with_shares(*sizes, locks=locks))
        for sizes, locks in [((33,), 1), ((17,), 2), ((3, 3), 3), ((3,), 5), ((2,), 6), ((5,), 4)]:
            refuses(self, with_shares(*sizes, locks=locks))

    def test_number_of_locks(self):
        for locks in range(7):
            accepts(self, with_shares(locks=locks))
        for locks in [7, 8, 30, 1000]:
            refuses(self, with_shares(locks=locks))

    def test_bells_do_not_count(self):
        bells = [f"b{at}" for at in range(100)]
        accepts(self, ([("x", 0, 63, 0)], [], bells, [CREW]))

    def test_very_many_shares(self):
        refuses(self, ([(f"x{at}", -99, 99, 0) for at in range(3000)], [], [], [CREW]))


class Places(unittest.TestCase):
    def crew(self, body, *sizes):
        variables = [(f"v{at}", -1, size - 2, -1) for at, size in enumerate(sizes)]
        return ("c", None, variables, body)

    def check(self, check, *kinds):
        check(self, ([], [], ["b"], list(kinds)), repr(kinds)[:300])

    def test_straight_bodies(self):
        # Each kind has an end point and a broken point besides.
        self.check(accepts, self.crew([("skip",)] * 93))
        self.check(accepts, self.crew([("skip",)] * 94))
        self.check(refuses, self.crew([("skip",)] * 95))
        self.check(refuses, self.crew([("skip",)] * 1000))

    def test_rests_have_two_points(self):
        self.check(accepts, self.crew([("rest", "b")] * 47))
        self.check(refuses, self.crew([("rest", "b")] * 48))
        self.check(refuses, self.crew([("rest", "b")] * 47 + [("skip",)]))
        self.check(accepts, self.crew([("rest", "b")] * 46 + [("skip",)] * 2))

    def test_locals(self):
        self.check(accepts, self.crew([], 48))
        self.check(refuses, self.crew([], 49))
        self.check(accepts, self.crew([], 6, 8))
        self.check(refuses, self.crew([], 7, 7))
        self.check(accepts, self.crew([("skip",)] * 14, 3, 2))
        self.check(refuses, self.crew([("skip",)] * 15, 3, 2))
        self.check(accepts, self.crew([("rest", "b")] * 3, 4, 3))
        self.check(refuses, self.crew([("rest", "b")] * 3 + [("skip",)], 4, 3))
        self.check(accepts, self.crew([("skip",)], 32))
        self.check(refuses, self.crew([("skip",)], 33))

    def test_several_kinds(self):
        other = ("d", 0, [("w", 0, 4, 0)], [("skip",)] * 8)
        self.check(accepts, self.crew([("skip",)] * 44), other)
        self.check(refuses, self.crew([("skip",)] * 45), other)
        self.check(accepts, other, self.crew([("skip",)] * 21, 2))
        self.check(refuses, other, self.crew([("skip",)] * 22, 2))
        many = [(f"k{at}", 9, [], []) for at in range(47)]
        self.check(accepts, CREW, *many)
        self.check(refuses, CREW, *many, ("k47", 9, [], []))
        self.check(accepts, self.crew([]), *many)
        self.check(refuses, self.crew([("skip",)]), *many)

    def test_threads_do_not_count(self):
        for count in [0, 1, 9]:
            self.check(accepts, self.crew([("skip",)] * 92), ("d", count, [], []))
            self.check(refuses, self.crew([("skip",)] * 93), ("d", count, [], []))

    def test_nested_statements(self):
        def body(size):
            inner = [("skip",)] * 30
            return [
                ("if", True, inner, [("loop", False, inner)]),
                ("choose", [[], inner[:10], [("loop", True, [])]]),
            ] + [("skip",)] * size

        # 1 + 30 + 1 + 30 for the if, 1 + 10 + 1 for the choose.
        self.check(accepts, self.crew(body(20)))
        self.check(refuses, self.crew(body(21)))

    def test_bodies_of_their_own_do_not_count(self):
        self.check(accepts, self.crew([("choose", [[]] * 500)] * 3 + [("skip",)] * 91))
        self.check(refuses, self.crew([("choose", [[]] * 500)] * 3 + [("skip",)] * 92))


class Characters(unittest.TestCase):
    def filled(self, program, length):
        """The program with shares of one value, so that its text has so many characters."""
        shares, locks, bells, kinds = program
        more = shares_of_length(length - len(text_of(program)))
        return (shares + more, locks, bells, kinds)

    def check_bound(self, program):
        accepts(self, program)
        for length in [19000, 19999, 20000]:
            filled = self.filled(program, length)
            self.assertEqual(len(text_of(filled)), length)
            accepts(self, filled, str(length))
        for length in [20001, 20002, 30000]:
            filled = self.filled(program, length)
            self.assertEqual(len(text_of(filled)), length)
            refuses(self, filled, str(length))

    def test_written_form(self):
        self.assertEqual(text_of(full_program()), FULL_TEXT)
        self.assertEqual(
            text_of(([("a", -99, -1, -5), ("true", 0, 0, 0)], [], ["p", "q"], [CREW])),
            "share a -99 -1 -5\nshare true 0 0 0\nbell p\nbell q\nkind c any\nend\n",
        )

    def test_shares_of_length(self):
        for length in list(range(17, 100)) + list(range(5000, 5100)):
            lines = [f"share {name} 0 0 0\n" for name, _, _, _ in shares_of_length(length)]
            self.assertEqual(sum(map(len, lines)), length)

    def test_bound_with_everything(self):
        self.check_bound(full_program())
        self.check_bound(([], [], [], [CREW]))

    def test_bound_with_known_length(self):
        # "kind c any", "end" and their newlines are 15 characters.
        shares = shares_of_length(20000 - 15)
        accepts(self, (shares, [], [], [CREW]))
        longer = shares_of_length(20001 - 15)
        refuses(self, (longer, [], [], [CREW]))
        # "bell NAME" and its newline are 26 characters for a name of 20.
        bells = [f"b{at:019d}" for at in range(768)]
        self.assertEqual(768 * 26 + 15, 19983)
        accepts(self, ([], [], bells + ["z" * 11], [CREW]))
        refuses(self, ([], [], bells + ["z" * 12], [CREW]))

    def test_bound_with_locals(self):
        # "  local NAME 0 0 0" and its newline are 35 characters for a name of 20.
        variables = [(f"v{at:019d}", 0, 0, 0) for at in range(570)]
        accepts(self, ([("s" * 20, 0, 0, 0)], [], [], [("c", None, variables, [])]))
        self.assertEqual(570 * 35 + 33 + 15, 19998)
        accepts(self, ([("s" * 20, 0, 10, 0)], [], [], [("cc", None, variables, [])]))
        refuses(self, ([("s" * 20, 0, 10, 10)], [], [], [("cc", None, variables, [])]))

    def test_bound_with_bodies_of_a_choose(self):
        # Each further body is a line "  or" with its newline, 5 characters.
        self.assertEqual(len("kind c any\n  choose\n  end\nend\n"), 30)
        accepts(self, ([], [], [], [("c", None, [], [("choose", [[]] * 3995)])]))
        refuses(self, ([], [], [], [("c", None, [], [("choose", [[]] * 3996)])]))

    def test_bound_with_values(self):
        # A full tree of depth 10 has 511 signs and 512 leaves.
        big = nested(9, lambda inner: ("+", inner, inner), -99)
        length = len("  set x \n") + 511 * 2 + 512 * 4 - 1
        body = [("set", "x", big)] * 6
        program = ([("x", 0, 0, 0)], [], [], [("c", None, [], body)])
        self.assertEqual(len(text_of(program)), 6 * length + 15 + 14)
        self.check_bound(program)
        tenfold = ([("x", 0, 0, 0)], [], [], [("c", None, [], body * 2)])
        refuses(self, tenfold)

    def test_bound_with_nesting(self):
        wrap = lambda inner: ("if", True, [inner], [inner])
        self.check_bound(([], [], [], [("c", None, [], [nested(5, wrap, ("skip",))])]))
        self.check_bound(([("x", 0, 3, 1)], ["l", "m"], ["b"], [
            ("k", 9, [], []), ("c", None, [("v", 0, 0, 0)], [("loop", True, list(FULL_BODY))]),
        ]))
