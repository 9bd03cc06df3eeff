"""Programs and helpers that several tests use."""

import copy

from legion.errors import BadProgram, LegionError
from legion.machine import check_machine, compile_program
from legion.notation import format_program, parse_program
from legion.program import check_program

# One statement of each form, nested, with every sort of name, value and condition.
FULL_BODY = [
    ("skip",),
    ("set", "x", ("+", "v", -1)),
    ("set", "v", ("*", ("-", "x", 99), 2)),
    ("acquire", "l"),
    ("if", ("not", ("<", "x", 1)), [("release", "l")], [("wake", "b"), ("release", "l")]),
    ("rest", "b"),
    ("start", "k"),
    ("check", ("and", True, ("=", "v", "x"))),
    ("await", ("or", False, ("<=", 0, "v"))),
    ("mark", "here"),
    ("loop", True, [("choose", [[], [("skip",)], [("loop", False, [])]])]),
    ("if", False, [], []),
]

FULL_TEXT = """\
share x 0 3 1
lock l
lock m
bell b
kind c any
  local v -1 1 0
  skip
  set x + v -1
  set v * - x 99 2
  acquire l
  if not < x 1
    release l
  else
    wake b
    release l
  end
  rest b
  start k
  check and true = v x
  await or false <= 0 v
  mark here
  loop true
    choose
    or
      skip
    or
      loop false
      end
    end
  end
  if false
  else
  end
end
kind k 2
  local w 0 1 1
  skip
end
"""


def with_body(body):
    """A program whose crew has the given body."""
    return (
        [("x", 0, 3, 1)],
        ["l", "m"],
        ["b"],
        [
            ("c", None, [("v", -1, 1, 0)], body),
            ("k", 2, [("w", 0, 1, 1)], [("skip",)]),
        ],
    )


def kind_with(body):
    """A kind with the given body."""
    return ("c", None, [("v", -1, 1, 0)], body)


def full_program():
    """A valid program with everything that may occur in one."""
    return with_body(copy.deepcopy(FULL_BODY))


def nested(depth, wrap, core):
    """The core, wrapped so often."""
    for _ in range(depth):
        core = wrap(core)
    return core


def accepts(case, program, note=""):
    """Fail if the program is refused somewhere, or is not read back as it is written."""
    try:
        case.assertIsNone(check_program(program), note)
        case.assertIsNone(check_machine(compile_program(program)), note)
        again = parse_program(format_program(program))
    except LegionError as error:
        case.fail(f"refused with: {error!r}; {note}")
    # 1 and True are equal for Python, but not as they are shown.
    case.assertEqual(repr(again), repr(program), note)


def refuses(case, program, note=""):
    """Fail if check_program or compile_program does not raise BadProgram."""
    for function in [check_program, compile_program]:
        with case.assertRaises(BadProgram, msg=note):
            function(program)



def lists_within(thing):
    """All lists in a thing that consists of tuples, lists and dicts, each as often as it occurs."""
    found = [thing] if isinstance(thing, (list, dict)) else []
    if isinstance(thing, dict):
        thing = list(thing.values())
    if isinstance(thing, (list, tuple)):
        for part in thing:
            found.extend(lists_within(part))
    return found


def new_lists(case, returned, *passed):
    """Fail if a list occurs at two places of what is returned, or is one that was passed."""
    marks = [id(one) for one in lists_within(returned)]
    case.assertEqual(len(marks), len(set(marks)))
    case.assertFalse(set(marks) & {id(one) for one in lists_within(passed)})


def spoil(thing):
    """Change all lists and dicts in a thing."""
    for one in lists_within(thing):
        one.clear()
