"""Promises 10, 11 and 12: the written form, and reading it."""

import unittest

from legion.errors import BadProgram, BadText
from legion.notation import format_program, parse_program
from legion.program import check_program
from tests.makers import programs
from tests.samples import FULL_TEXT, accepts, full_program, nested, new_lists, spoil, with_body

OTHER_TEXT = """\
share true -9 -4 -5
share false 0 0 0
lock z
lock a
bell q
bell p
kind w 0
end
kind any1 9
  local v -1 0 -1
  local u 7 8 8
  rest p
end
kind c any
  set true true
  check or = true false and true not false
  choose
  end
  choose
  or
  or
  end
  if < - 0 -99 * true 1
  else
    loop not or true false
      if true
        mark kinds
      else
      end
    end
  end
end
"""

OTHER_PROGRAM = (
    [("true", -9, -4, -5), ("false", 0, 0, 0)],
    ["z", "a"],
    ["q", "p"],
    [
        ("w", 0, [], []),
        ("any1", 9, [("v", -1, 0, -1), ("u", 7, 8, 8)], [("rest", "p")]),
        ("c", None, [], [
            ("set", "true", "true"),
            ("check", ("or", ("=", "true", "false"), ("and", True, ("not", False)))),
            ("choose", [[]]),
            ("choose", [[], [], []]),
            ("if", ("<", ("-", 0, -99), ("*", "true", 1)), [], [
                ("loop", ("not", ("or", True, False)), [("if", True, [("mark", "kinds")], [])]),
            ]),
        ]),
    ],
)

CREW_TEXT = "kind c any\nend\n"


def crew_text(*lines, before=""):
    """The text of a program whose crew has the given lines."""
    return before + "kind c any\n" + "".join([f"  {line}\n" for line in lines]) + "end\n"


class Writing(unittest.TestCase):
    def test_everything(self):
        self.assertEqual(format_program(full_program()), FULL_TEXT)
        self.assertEqual(format_program(OTHER_PROGRAM), OTHER_TEXT)

    def test_smallest(self):
        self.assertEqual(format_program(([], [], [], [("c", None, [], [])])), CREW_TEXT)

    def test_each_statement(self):
        for statement, lines in [
            (("skip",), ["skip"]),
            (("set", "x", -5), ["set x -5"]),
            (("rest", "b"), ["rest b"]),
            (("wake", "b"), ["wake b"]),
            (("start", "c"), ["start c"]),
            (("check", ("<", "x", ("+", 1, "v"))), ["check < x + 1 v"]),
            (("await", False), ["await false"]),
            (("mark", "true"), ["mark true"]),
            (("if", True, [], []), ["if true", "else", "end"]),
            (("if", ("=", 1, 2), [("skip",)], [("mark", "a"), ("skip",)]),
             ["if = 1 2", "  skip", "else", "  mark a", "  skip", "end"]),
            (("loop", ("<=", "x", "v"), [("skip",), ("skip",)]),
             ["loop <= x v", "  skip", "  skip", "end"]),
            (("loop", False, []), ["loop false", "end"]),
            (("choose", [[]]), ["choose", "end"]),
            (("choose", [[("skip",)], [], [("mark", "a"), ("mark", "b")]]),
             ["choose", "  skip", "or", "or", "  mark a", "  mark b", "end"]),
        ]:
            program = ([("x", 0, 1, 0)], [], ["b"], [("c", None, [("v", 0, 1, 0)], [statement])])
            text = crew_text("local v 0 1 0", *lines, before="share x 0 1 0\nbell b\n")
            self.assertEqual(format_program(program), text)
            self.assertEqual(repr(parse_program(text)), repr(program))

    def test_locks(self):
        program = ([], ["l"], [], [("c", None, [], [("acquire", "l"), ("release", "l")])])
        text = crew_text("acquire l", "release l", before="lock l\n")
        self.assertEqual(format_program(program), text)
        self.assertEqual(parse_program(text), program)

    def test_counts(self):
        for count in range(10):
            program = ([], [], [], [("d", count, [], []), ("c", None, [], [])])
            self.assertEqual(format_program(program), f"kind d {count}\nend\n" + CREW_TEXT)
            accepts(self, program)


class Reading(unittest.TestCase):
    def test_everything(self):
        self.assertEqual(repr(parse_program(FULL_TEXT)), repr(full_program()))
        self.assertEqual(repr(parse_program(OTHER_TEXT)), repr(OTHER_PROGRAM))

    def test_what_is_made(self):
        for program in programs(300):
            text = format_program(program)
            again = parse_program(text)
            self.assertEqual(repr(again), repr(program))
            self.assertEqual(format_program(again), text)
            new_lists(self, again, program)

    def test_new_lists(self):
        body = []
        program = with_body([("if", True, body, body), ("choose", [body, body])])
        text = format_program(program)
        first = parse_program(text)
        second = parse_program(text)
        self.assertEqual(first, program)
        new_lists(self, (first, second), program)
        spoil(first)
        self.assertEqual(second, program)
        self.assertEqual(parse_program(text), program)
        self.assertEqual(program, with_body([("if", True, [], []), ("choose", [[], []])]))

    def test_program_is_not_changed(self):
        program = full_program()
        format_program(program)
        self.assertEqual(repr(program), repr(full_program()))

    def test_depth_bounds(self):
        for wrap in [
            lambda body: [("loop", True, body)],
            lambda body: [("if", False, [], body)],
            lambda body: [("choose", [[], body])],
        ]:
            for core in [[], [("skip",)]]:
                # A statement with bodies that are all empty has depth 1.
                deepest = 10 - len(core)
                program = ([], [], [], [("c", None, [], nested(deepest, wrap, core))])
                accepts(self, program)
                for depth in [deepest + 1, deepest + 2, 60]:
                    program = ([], [], [], [("c", None, [], nested(depth, wrap, core))])
                    self.refused(format_program(program))
        plus = lambda value: ("+", value, 1)
        negate = lambda condition: ("not", condition)
        self.depth(lambda depth: ("set", "x", nested(depth, plus, "x")), 9)
        self.depth(lambda depth: ("check", nested(depth, negate, False)), 9)
        self.depth(lambda depth: ("loop", ("=", 1, nested(depth, plus, 1)), []), 8)

    def depth(self, make, deepest):
        accepts(self, with_body([make(deepest)]))
        for depth in [deepest + 1, deepest + 2, 100]:
            self.refused(format_program(with_body([make(depth)])))

    def test_bound_of_characters(self):
        # "bell NAME" and its newline are 26 characters for a name of 20.
        bells = [f"b{at:019d}" for at in range(768)]
        for last, known in [(10, True), (11, True), (12, False), (13, False)]:
            text = "".join([f"bell {name}\n" for name in bells + ["z" * last]]) + CREW_TEXT
            self.assertEqual(len(text), 19989 + last)
            if known:
                self.assertEqual(format_program(parse_program(text)), text)
            else:
                self.refused(text)

    def refused(self, text):
        with self.assertRaises((BadText, BadProgram), msg=text[:200]):
            parse_program(text)


class WrongTexts(unittest.TestCase):
    texts = [FULL_TEXT, OTHER_TEXT, crew_text("check <= -9 90", "skip"), CREW_TEXT]

    def refused(self, text):
        with self.assertRaises((BadText, BadProgram), msg=text[:300]):
            parse_program(text)

    def refused_or_exact(self, text):
        """Fail if something is read from the text that is not written so."""
        try:
            program = parse_program(text)
        except (BadText, BadProgram):
            return
        self.assertIsNone(check_program(program))
        self.assertEqual(format_program(program), text)

    def test_texts_are_right(self):
        for text in self.texts:
            self.assertEqual(format_program(parse_program(text)), text)

    def test_no_program(self):
        for text in ["", "\n", " ", "end\n", "kind\n", "skip\n", "kind c any\n", "share x 0 1 0\n",
                     "kind c 1\nend\n", CREW_TEXT + "kind d any\nend\n", "lock l\n", "program\n",
                     CREW_TEXT * 2, "kind c none\nend\n", "kind c\nend\n", "kind any c\nend\n",
                     "kind c any any\nend\n", "kind c 10\nend\n" + "kind d any\nend\n"]:
            self.refused(text)

    def test_newlines(self):
        for text in self.texts:
            self.refused(text[:-1])
            self.refused(text + "\n")
            self.refused("\n" + text)
            self.refused(text.replace("\n", "\n\n"))
            self.refused(text.replace("\n", "\r\n"))
            self.refused(text.replace("\n", "\r"))
            self.refused(text.replace("\n", " "))
            self.refused(text[:-1] + "\r")
            self.refused(text[:-1] + " ")
            for at, sign in enumerate(text):
                if sign == "\n":
                    self.refused(text[:at] + text[at + 1:])
                    self.refused(text[:at] + "\n" + text[at:])
                    self.refused(text[:at] + " " + text[at:])
                    self.refused(text[:at] + " " + text[at + 1:])
                    self.refused(text[:at] + "\r" + text[at:])

    def test_spaces(self):
        for text in self.texts:
            self.refused(" " + text)
            self.refused("  " + text)
            self.refused(text.replace(" ", "\t"))
            self.refused(text.replace(" ", "  "))
            self.refused(text + " ")
            self.refused(text + "  ")
            for at, sign in enumerate(text):
                if sign == " ":
                    for other in ["  ", "", "\t", "\n", "_", "   ", "\u00a0", "\x1c", "\x0b"]:
                        self.refused(text[:at] + other + text[at + 1:])

    def test_indentation(self):
        for text in self.texts:
            lines = text.split("\n")[:-1]
            for at, line in enumerate(lines):
                for other in [" " + line, "  " + line, "\t" + line, line[1:], line[2:],
                              line + " ", line + "  "]:
                    if other != line:
                        self.refused("\n".join(lines[:at] + [other] + lines[at + 1:] + [""]))

    def test_numbers(self):
        before = "share x -9 90 0\n"
        self.assertEqual(parse_program(before.replace("-9 90", "-9 9") + CREW_TEXT)[0][0][1], -9)
        for words in ["-09 9 0", "-9 09 0", "-9 9 00", "-9 9 -0", "-9 +9 0", "+0 9 0", "-9 9 0x0",
                      "-9 9 0.0", "-9 9 0 0", "-9 9", "-9 9 zero", "--9 9 0", "- 9 9 0", "-9 9 -",
                      "-9 9 1e0", "-9 9 1_0", "-9 9 \u0663", "-9 9 \u00b2", "-100 -99 -99",
                      "99 100 99", "9 -9 0", "-9 9 10", "-9 9 -10", "1 9 0", "-9 9 x",
                      "-9 9 " + "9" * 5000, "-9 9 -" + "0" * 5000, "-9 9 any"]:
            self.refused(f"share x {words}\n{CREW_TEXT}")
            self.refused(crew_text(f"local x {words}"))
        for word in ["01", "-0", "+1", "00", "-01", "1.", "1_0", "100", "-100", "-", "--1", "1-",
                     "0x1", "\u0661", "9" * 5000, "1x"]:
            for line in ["set x WORD", "check = WORD 1", "await < 1 WORD", "set x + WORD 1"]:
                self.refused(crew_text(line.replace("WORD", word), before="share x 0 3 0\n"))
            self.refused(f"kind d {word}\nend\n" + CREW_TEXT)
        self.refused("kind d -1\nend\n" + CREW_TEXT)
        for word in ["1", "-1", "0", "99", "-99"]:
            text = crew_text(f"set x {word}", before="share x 0 3 0\n")
            self.assertEqual(parse_program(text)[3][0][3], [("set", "x", int(word))])

    def test_order_of_declarations(self):
        lines = {"share": "share x 0 1 0\n", "lock": "lock l\n", "bell": "bell b\n"}
        words = ["share", "lock", "bell"]
        for first in words:
            for second in words:
                for third in words:
                    text = lines[first] + lines[second] + lines[third]
                    if [first, second, third] == words:
                        self.assertEqual(parse_program(text + CREW_TEXT)[1], ["l"])
                        self.refused(CREW_TEXT + text)
                    else:
                        self.refused(text + CREW_TEXT)
        for word in words:
            self.refused(CREW_TEXT + lines[word])
            self.refused("kind d 1\nend\n" + lines[word] + CREW_TEXT)
            self.refused(crew_text(lines[word].strip()))
        self.refused(crew_text("skip", "local v 0 1 0"))
        self.refused("local v 0 1 0\n" + CREW_TEXT)

    def test_order_is_kept(self):
        text = "share y 0 1 0\nshare x 0 1 0\nlock m\nlock l\nbell q\nbell p\n" + CREW_TEXT
        other = "share x 0 1 0\nshare y 0 1 0\nlock l\nlock m\nbell p\nbell q\n" + CREW_TEXT
        self.assertEqual(parse_program(text)[1:3], (["m", "l"], ["q", "p"]))
        self.assertEqual(parse_program(other)[1:3], (["l", "m"], ["p", "q"]))

    def test_lines_left_out(self):
        for text in self.texts:
            lines = text.split("\n")[:-1]
            for at, line in enumerate(lines):
                fewer = "\n".join(lines[:at] + lines[at + 1:] + [""])
                self.refused_or_exact(fewer)
                if line.split()[0] in ["end", "else", "kind", "if", "loop", "choose"]:
                    self.refused(fewer)
        self.refused(FULL_TEXT.replace("share x 0 3 1\n", ""))
        self.refused(FULL_TEXT.replace("lock l\n", ""))
        self.refused(FULL_TEXT.replace("bell b\n", ""))
        self.refused(FULL_TEXT.replace("  local v -1 1 0\n", ""))

    def test_lines_twice(self):
        for text in self.texts:
            lines = text.split("\n")[:-1]
            for at, line in enumerate(lines):
                more = "\n".join(lines[:at] + [line] + lines[at:] + [""])
                self.refused_or_exact(more)
                if line.split()[0] not in ["skip", "set", "mark", "check", "await", "start",
                                           "rest", "wake", "or"]:
                    self.refused(more)

    def test_lines_exchanged(self):
        for text in self.texts:
            lines = text.split("\n")[:-1]
            for at in range(len(lines)):
                for other in range(at):
                    order = list(lines)
                    order[at], order[other] = lines[other], lines[at]
                    self.refused_or_exact("\n".join(order + [""]))

    def test_cut_off(self):
        for text in self.texts:
            for end in range(len(text)):
                self.refused_or_exact(text[:end])
                if not text[:end].endswith("\nend\n"):
                    self.refused(text[:end])
        # Without its last kind the text has a start of a kind that is not there.
        self.refused(FULL_TEXT.split("kind k")[0])

    def test_each_character(self):
        for text in self.texts:
            for at in range(len(text)):
                self.refused_or_exact(text[:at] + text[at + 1:])
                for sign in "x0-9 \n+<":
                    self.refused_or_exact(text[:at] + sign + text[at:])
                    self.refused_or_exact(text[:at] + sign + text[at + 1:])

    def test_other_characters(self):
        for sign in ["\t", "\r", "\x00", "\x0b", "\x0c", "\x1f", "\x7f", "\x80", "\x85", "\xa0",
                     "\u2028", "\u3000", "\uff11", "\U0001f600", "\ud800", "\ufeff"]:
            for text in self.texts:
                for at in [0, 1, len(text) // 2, len(text) - 1, len(text)]:
                    self.refused(text[:at] + sign + text[at:])
        self.refused(crew_text("mark \u00e9"))
        self.refused(crew_text("mark a~"))

    def test_words_of_statements(self):
        before = "share x 0 3 0\nlock l\nbell b\n"
        for line in ["skip skip", "skip x", "set", "set x", "set x 1 1", "set 1 x", "acquire",
                     "release l", "acquire l", "acquire l l", "rest", "rest b b", "rest l",
                     "wake", "wake b 1", "start", "start c c", "start d", "check", "check x",
                     "check 1", "check true true", "check = 1", "check = 1 2 3", "check + 1 2",
                     "check not", "check not x", "check and true", "check TRUE", "await",
                     "await 0", "mark", "mark a b", "mark 1", "mark end", "if", "if true",
                     "loop", "loop true", "choose", "choose true", "else", "or", "end", "pass",
                     "Skip", "SKIP", "set x = 1 1", "set x true", "set x not 1", "set X 1",
                     "set x +", "set x + 1", "set x ( + 1 1 )", "set x 1 + 1", "check 1 < 2",
                     "when true", "kind d 1", "check true and false", "check ( true )"]:
            self.refused(crew_text(line, before=before))
        self.assertEqual(parse_program(crew_text("skip", before=before))[3][0][3], [("skip",)])

    def test_words_of_bodies(self):
        for lines in [
            ["if true", "end"], ["if true", "else", "else", "end"], ["if true", "or", "end"],
            ["if true", "else"], ["loop true", "else", "end"], ["loop true", "or", "end"],
            ["choose", "else", "end"], ["choose", "or"], ["choose", "end", "end"],
            ["choose or end"], ["choose", "or or", "end"], ["if true else end"],
            ["if true", "else end"], ["loop true end"], ["loop true", "end end"],
            ["if true", "skip", "else", "end"], ["loop true", "    skip", "end"],
            ["choose", "  skip or", "end"], ["choose", "  skip", "  or", "end"],
            ["if true", "  else", "end"], ["loop true", "  end"], ["choose", "  end"],
            ["loop true", "  skip", "    skip", "end"], ["loop", "  true", "end"],
        ]:
            self.refused(crew_text(*lines))
        self.refused("kind c any end\n")
        self.refused("kind c any\nskip\nend\n")
        self.refused("kind c any\n  end\n")
        self.refused("kind c any\nend end\n")

    def test_names_with_digits(self):
        name = "a1234567890123456789"
        for line in [f"set {name} {name}", f"set {name} + 1 {name}", f"check < {name} 1",
                     f"start {name}", f"mark {name}", f"wake {name}"]:
            before = {"start": f"kind {name} 0\nend\n", "wake": f"bell {name}\n"}
            before = before.get(line.split()[0], f"share {name} 0 1 0\n")
            text = crew_text(line, before=before)
            self.assertEqual(format_program(parse_program(text)), text)

    def test_two_statements_on_a_line(self):
        self.refused(crew_text("skip skip"))
        self.refused(crew_text("mark a mark b"))
        self.refused(crew_text("set x", "1", before="share x 0 1 0\n"))
        self.refused(crew_text("set x 1 skip", before="share x 0 1 0\n"))
        self.refused("share x 0 1 0 share y 0 1 0\n" + CREW_TEXT)
        self.refused("lock l lock m\n" + CREW_TEXT)
        self.refused("lock l m\n" + CREW_TEXT)
        self.refused("bell\n" + CREW_TEXT)

    def test_names(self):
        for name in ["X", "1x", "x_y", "end", "or", "set", "x" * 21, "-", "+", "x-y", "\"x\""]:
            self.refused(f"share {name} 0 1 0\n{CREW_TEXT}")
            self.refused(f"lock {name}\n{CREW_TEXT}")
            self.refused(f"bell {name}\n{CREW_TEXT}")
            self.refused(f"kind {name} any\nend\n")
            self.refused(crew_text(f"local {name} 0 1 0"))
            self.refused(crew_text(f"mark {name}"))
        for name in ["c", "x"]:
            self.refused(f"share x 0 1 0\nlock {name}\n{CREW_TEXT}")

    def test_very_long_and_very_deep(self):
        before = "share x 0 1 0\n"
        for many in [11, 500, 3000]:
            self.refused(crew_text("set x " + "+ " * many + "1 " * many + "1", before=before))
            self.refused(crew_text("set x " + "+ 1 " * many + "1", before=before))
            self.refused(crew_text("check " + "not " * many + "true"))
            self.refused(crew_text("check " + "and true " * many + "true"))
        for many in [9000, 9900]:
            self.refused(crew_text("set x " + "+ " * many, before=before))
            self.refused(crew_text("check " + "not " * (many // 2)))
            self.refused("end\n" * (many // 2))
            self.refused("\n" * many)
            self.refused(" " * many)
            self.refused("kind " * (many // 4))
        for many in [11, 60, 90]:
            lines = ["  " * at + "loop true" for at in range(many)]
            ends = ["  " * at + "end" for at in reversed(range(many))]
            self.refused(crew_text(*lines, *ends))
            self.refused(crew_text(*lines))
        self.refused("kind c any\n" + "loop true\n" * 1900)
        self.refused("kind c any\n" + "choose\n" * 2800)
        self.refused("kind c any\n" + "if true\n" * 2400)
        self.refused(crew_text("choose", *["or"] * 5000, "end"))
        self.refused(crew_text(*["skip"] * 95))
        self.refused(crew_text(*["skip"] * 2800))
        self.assertEqual(len(parse_program(crew_text(*["skip"] * 94))[3][0][3]), 94)

    def test_more_than_the_most_characters(self):
        for text in self.texts:
            for many in [20001 - len(text), 20001, 100000, 1000000]:
                self.refused(text + "\n" * many)
                self.refused(text + " " * many)
                self.refused("share " + "x" * many + " 0 1 0\n" + text)

    def test_programs_that_are_too_large(self):
        crew = ("c", None, [], [])
        for program in [
            ([("x", 0, 64, 0)], [], [], [crew]),
            ([("x", 0, 3, 0), ("y", 0, 16, 0)], [], [], [crew]),
            ([], [f"l{at}" for at in range(7)], [], [crew]),
            ([("x", 0, 1, 0)], [f"l{at}" for at in range(6)], [], [crew]),
            ([], [], [], [("c", None, [("v", 0, 48, 0)], [])]),
            ([], [], [], [("c", None, [], [("skip",)] * 95)]),
            ([], [], [], [crew] + [(f"k{at}", 0, [], []) for at in range(48)]),
            ([("x", -99, 99, 0)], [], [], [crew]),
        ]:
            self.refused(format_program(program))

    def test_locks_that_are_used_wrongly(self):
        before = "lock l\nlock m\nbell b\n"
        for lines in [
            ["acquire l"], ["release l"], ["acquire l", "acquire l", "release l"],
            ["acquire l", "release m"], ["acquire l", "rest b", "release l"],
            ["if true", "  acquire l", "else", "end"], ["loop true", "  acquire l", "end"],
            ["choose", "  acquire l", "or", "end", "release l"],
        ]:
            self.refused(crew_text(*lines, before=before))
        text = crew_text("acquire l", "release l", "rest b", before=before)
        self.assertEqual(format_program(parse_program(text)), text)
