"""Promises 2, 3, 4 and 6: the form of programs, and of everything in them."""

import copy
import unittest

from legion.program import check_program
from tests.samples import accepts, full_program, nested, refuses, with_body

RESERVED = (
    "share lock bell kind any local skip set acquire release rest wake start check "
    "await mark if else loop choose or end and not"
).split()


def paths_of(thing, path=()):
    """The places of a nested thing, as tuples of indexes, the thing itself included."""
    yield path
    if isinstance(thing, (list, tuple)):
        for at, part in enumerate(thing):
            yield from paths_of(part, path + (at,))


def part_at(thing, path):
    """The part of a nested thing at a path."""
    for at in path:
        thing = thing[at]
    return thing


def replaced(thing, path, part):
    """The thing with another part at a path."""
    if not path:
        return part
    items = list(thing)
    items[path[0]] = replaced(thing[path[0]], path[1:], part)
    return items if isinstance(thing, list) else tuple(items)


def declaring(sort, name):
    """A program with a name that is used for one thing of a sort."""
    program = full_program()
    shares, locks, bells, kinds = program
    crew, other = kinds
    if sort == "share":
        shares.append((name, 0, 0, 0))
    elif sort == "lock":
        locks.append(name)
    elif sort == "bell":
        bells.append(name)
    elif sort == "kind":
        kinds.append((name, 1, [], []))
    elif sort == "crew local":
        crew[2].append((name, 0, 0, 0))
    elif sort == "other local":
        other[2].append((name, 0, 0, 0))
    else:
        crew[3].append(("mark", name))
    return program


SORTS = ["share", "lock", "bell", "kind", "crew local", "other local", "mark"]


class Everywhere(unittest.TestCase):
    """One part of a valid program is replaced, at every place in turn."""

    def setUp(self):
        self.program = full_program()
        self.paths = list(paths_of(self.program))

    def refused_with(self, path, part):
        refuses(self, replaced(self.program, path, part), f"{path} {part!r}"[:200])

    def test_the_program_itself(self):
        accepts(self, self.program)

    def test_list_for_tuple_and_tuple_for_list(self):
        for path in self.paths:
            part = part_at(self.program, path)
            if isinstance(part, tuple):
                self.refused_with(path, list(part))
            elif isinstance(part, list):
                self.refused_with(path, tuple(part))

    def test_items_missing_in_tuples(self):
        for path in self.paths:
            part = part_at(self.program, path)
            if isinstance(part, tuple):
                for at in range(len(part)):
                    self.refused_with(path, part[:at] + part[at + 1:])

    def test_items_too_many_in_tuples(self):
        for path in self.paths:
            part = part_at(self.program, path)
            if isinstance(part, tuple):
                for more in [None, True, 0, "x", part[-1], [], ()]:
                    self.refused_with(path, part + (more,))

    def test_wrong_items_in_lists(self):
        for path in self.paths:
            part = part_at(self.program, path)
            if isinstance(part, list):
                for more in [None, True, False, 0, 1, "", "A", (), ("skip", 1), ("nothing",)]:
                    self.refused_with(path, part + [more])
                    self.refused_with(path, [more] + part)

    def test_none(self):
        for path in self.paths:
            if part_at(self.program, path) is not None:
                self.refused_with(path, None)

    def test_none_is_needed(self):
        for number in [0, 1, 9]:
            self.refused_with((3, 0, 1), number)

    def test_true_and_false(self):
        for path in self.paths:
            part = part_at(self.program, path)
            condition = part is True or part is False
            if isinstance(part, tuple) and part:
                condition = part[0] in ("not", "and", "or", "=", "<", "<=")
            if not condition:
                self.refused_with(path, True)
                self.refused_with(path, False)

    def test_integers(self):
        for path in self.paths:
            if not isinstance(part_at(self.program, path), int):
                value = self.is_value(path)
                for number in [-100, 100, 10 ** 50] + ([] if value else [0, 1]):
                    self.refused_with(path, number)

    def is_value(self, path):
        above = part_at(self.program, path[:-1]) if path else ()
        if not isinstance(above, tuple) or not above:
            return False
        if above[0] == "set":
            return path[-1] == 2
        return above[0] in ("+", "-", "*", "=", "<", "<=") and path[-1] > 0

    def test_far_integers(self):
        for path in self.paths:
            part = part_at(self.program, path)
            if isinstance(part, int) and not isinstance(part, bool):
                for number in [-100, 100, -10 ** 30, 10 ** 30]:
                    self.refused_with(path, number)

    def test_empty_things_and_wrong_texts(self):
        for path in self.paths:
            for part in [(), "", "X", "Skip", " ", "0", "x ", "skip "]:
                self.refused_with(path, part)

    def test_very_deep_things(self):
        deep = [
            nested(100000, lambda part: [part], []),
            nested(100000, lambda part: (part,), ()),
            nested(100000, lambda part: ("not", part), True),
            nested(100000, lambda part: ("+", part, 1), 1),
            nested(100000, lambda part: ("loop", True, [part]), ("skip",)),
            nested(100000, lambda part: ["skip", (part, None)], "x"),
        ]
        for path in self.paths:
            for part in deep:
                with self.assertRaises(ValueError):
                    check_program(replaced(self.program, path, part))
        for part in deep:
            refuses(self, part)

    def test_nothing_is_changed(self):
        before = copy.deepcopy(self.program)
        check_program(self.program)
        self.assertEqual(self.program, before)
        for path in self.paths:
            wrong = replaced(self.program, path, None)
            kept = copy.deepcopy(wrong)
            if path != (3, 0, 1):
                refuses(self, wrong)
            self.assertEqual(wrong, kept)


class WholeThings(unittest.TestCase):
    def test_no_programs(self):
        for thing in [None, True, False, 0, 1, "", "program", [], (), [[], [], [], []],
                      ("", "", "", ""), (None, None, None, None), ((), (), (), ())]:
            refuses(self, thing, repr(thing))

    def test_number_of_items(self):
        crew = [("c", None, [], [])]
        accepts(self, ([], [], [], crew))
        refuses(self, ([], [], crew))
        refuses(self, ([], [], [], crew, []))

    def test_texts_are_no_lists(self):
        crew = [("c", None, [], [])]
        refuses(self, ("", [], [], crew))
        refuses(self, ([], "ab", [], crew))
        refuses(self, ([], [], "ab", crew))
        refuses(self, ([], [], [], [("c", None, "", [])]))
        refuses(self, ([], [], [], [("c", None, [], "")]))

    def test_things_within_themselves(self):
        body = []
        body.append(("if", True, body, body))
        refuses(self, with_body(body))
        wide = []
        wide.extend([("choose", [wide] * 50)] * 50)
        refuses(self, with_body(wide))
        bodies = []
        bodies.append(bodies)
        refuses(self, with_body([("choose", bodies)]))
        kinds = []
        kinds.append(kinds)
        refuses(self, (kinds, kinds, kinds, kinds))
        around = [("x", 0, 1, 0)]
        around.append(around)
        refuses(self, (around, [], [], [("c", None, [], [])]))

    def test_one_list_at_very_many_places(self):
        body = [("skip",)]
        for _ in range(9):
            body = [("choose", [body] * 1000)] * 1000
        refuses(self, with_body(body))
        body = [("choose", [[]] * 1000000)] * 1000
        refuses(self, with_body(body))
        variables = [(f"v{at}", 0, 0, 0) for at in range(2000)]
        kinds = [(f"k{at}", 1, variables, []) for at in range(2000)]
        refuses(self, ([], [], [], [("c", None, [], [])] + kinds))

    def test_one_list_at_several_places(self):
        body = [("skip",)]
        accepts(self, with_body([("if", True, body, body), ("choose", [body, body])]))
        empty = []
        accepts(self, (empty, empty, empty, [("c", None, empty, empty)]))


class Names(unittest.TestCase):
    def each_sort(self, check, name):
        for sort in SORTS:
            check(self, declaring(sort, name), f"{sort} {name!r}")

    def test_right_ones(self):
        for name in ["a", "z", "a0", "z9", "q" * 19, "q" * 20, "a1b2c3", "abcdefghijklmnopqrst",
                     "uvwxyz0123456789", "true", "false", "none", "shares", "ifx", "skip1"]:
            self.each_sort(accepts, name)

    def test_lengths(self):
        self.each_sort(accepts, "q")
        self.each_sort(accepts, "q" * 20)
        self.each_sort(refuses, "")
        self.each_sort(refuses, "q" * 21)
        self.each_sort(refuses, "q" * 1000000)

    def test_first_signs(self):
        for sign in "0123456789AZ_-+ .\n\u00e9\u0430":
            self.each_sort(refuses, sign + "a")
            self.each_sort(refuses, sign)

    def test_other_characters(self):
        for sign in "AZ_-+ .\n\t`{/:\u00e9\u0430\u0660\u00b2\ud800\x00":
            self.each_sort(refuses, "a" + sign)
            self.each_sort(refuses, "a" + sign + "b")

    def test_reserved_words(self):
        self.assertEqual(len(RESERVED), 24)
        for word in RESERVED:
            self.each_sort(refuses, word)

    def test_other_kinds(self):
        for name in [None, True, False, 0, 1, (), [], ("a",), ["a"], ["a", "b"]]:
            self.each_sort(refuses, name)

    def test_used_twice(self):
        for one in SORTS[:-1]:
            for other in SORTS[:-1]:
                program = declaring(one, "twice")
                more = declaring(other, "twice")
                joined = self.joined(program, more)
                if {one, other} == {"crew local", "other local"}:
                    accepts(self, joined, f"{one} {other}")
                else:
                    refuses(self, joined, f"{one} {other}")

    def joined(self, program, more):
        """The first program with what the second one declares last, too."""
        plain = full_program()
        parts = []
        for at in range(3):
            parts.append(program[at] + more[at][len(plain[at]):])
        kinds = []
        for at, kind in enumerate(program[3][:2]):
            added = more[3][at][2][len(plain[3][at][2]):]
            kinds.append((kind[0], kind[1], kind[2] + added, kind[3]))
        kinds.extend(program[3][2:] + more[3][2:])
        return (*parts, kinds)

    def test_names_that_are_there_already(self):
        for name in ["x", "l", "m", "b", "c", "k"]:
            for sort in SORTS[:-1]:
                refuses(self, declaring(sort, name), f"{sort} {name}")
        accepts(self, declaring("crew local", "w"))
        accepts(self, declaring("other local", "v"))
        refuses(self, declaring("crew local", "v"))
        refuses(self, declaring("other local", "w"))
        for sort in ["share", "lock", "bell", "kind"]:
            refuses(self, declaring(sort, "v"), sort)
            refuses(self, declaring(sort, "w"), sort)

    def test_marks_may_be_equal_to_anything(self):
        for name in ["x", "l", "m", "b", "c", "k", "v", "w", "here"]:
            accepts(self, declaring("mark", name), name)


class Variables(unittest.TestCase):
    def share(self, *numbers):
        return ([("x", *numbers)], [], [], [("c", None, [], [])])

    def local(self, *numbers):
        return ([], [], [], [("c", None, [("x", *numbers)], [])])

    def other_local(self, *numbers):
        return ([], [], [], [("c", None, [], []), ("d", 1, [("x", *numbers)], [])])

    def both(self, check, *numbers):
        for make in [self.share, self.local, self.other_local]:
            check(self, make(*numbers), repr(numbers))

    def test_ranges(self):
        for numbers in [(0, 0, 0), (-99, -99, -99), (99, 99, 99), (-99, -90, -95), (90, 99, 99),
                        (-3, 3, -3), (-3, 3, 3), (-3, 3, 0), (5, 6, 5)]:
            self.both(accepts, *numbers)

    def test_out_of_range(self):
        for numbers in [(-100, -99, -99), (-100, -100, -100), (99, 100, 99), (100, 100, 100),
                        (99, 100, 100), (-100, -99, -100)]:
            self.both(refuses, *numbers)

    def test_out_of_order(self):
        for numbers in [(1, 0, 0), (1, 0, 1), (0, 1, 2), (0, 1, -1), (5, 4, 4), (5, 4, 5),
                        (3, 1, 2), (-1, -2, -2)]:
            self.both(refuses, *numbers)

    def test_wrong_kinds(self):
        for wrong in [True, False, None, "0", "x", (), [], (0,), [0]]:
            self.both(refuses, wrong, 1, 1)
            self.both(refuses, 0, wrong, 0)
            self.both(refuses, 0, 1, wrong)

    def test_number_of_items(self):
        self.both(refuses)
        self.both(refuses, 0)
        self.both(refuses, 0, 1)
        self.both(refuses, 0, 1, 0, 0)


class Kinds(unittest.TestCase):
    def counts(self, *counts):
        return ([], [], [], [(f"k{at}", count, [], []) for at, count in enumerate(counts)])

    def test_counts(self):
        for count in range(10):
            accepts(self, self.counts(None, count))
            accepts(self, self.counts(count, None))
        for count in [-1, 10, 11, -99, 99, 10 ** 20, True, False, "any", "1", (), [], (1,)]:
            refuses(self, self.counts(None, count), repr(count))
            refuses(self, self.counts(count, None), repr(count))

    def test_crews(self):
        accepts(self, self.counts(None))
        accepts(self, self.counts(1, None, 1))
        refuses(self, self.counts())
        refuses(self, self.counts(1))
        refuses(self, self.counts(0, 9))
        refuses(self, self.counts(None, None))
        refuses(self, self.counts(None, 1, None))
        refuses(self, self.counts(None, None, None))

    def test_number_of_items(self):
        for kind in [(), ("c",), ("c", None), ("c", None, []), ("c", None, [], [], [])]:
            refuses(self, ([], [], [], [kind]))
            refuses(self, ([], [], [], [("a", None, [], []), kind]))
