"""Repairs: statements that are enclosed with a new lock."""

from legion.answer import is_never
from legion.errors import BadProgram, OutOfRange
from legion.machine import compile_program
from legion.program import crew_kind, fresh_copy
from legion.questions import check_share, races_of

GUARD = "guard"


def enclosed(program, kind, first, last, name):
    """Return the program in which a range of the body of a kind is enclosed with a new lock."""
    shares, locks, bells, kinds = fresh_copy(program)
    own_name, count, variables, body = kinds[kind]
    inside = [("acquire", name), *body[first:last + 1], ("release", name)]
    kinds[kind] = (own_name, count, variables, body[:first] + inside + body[last + 1:])
    return (shares, [*locks, name], bells, kinds)


def find_repair(program, share, *, fuel=60):
    """Return the repair of a program for a race on a share, a tuple (first, last) or None."""
    check_share(program, share)
    if fuel < 0:
        raise OutOfRange("there is no fuel below 0")
    kind = crew_kind(program)
    size = len(program[3][kind][3])
    for many in range(1, size + 1):
        for first in range(size - many + 1):
            last = first + many - 1
            if has_no_race(enclosed(program, kind, first, last, GUARD), share, fuel):
                return (first, last)
    return None


def has_no_race(program, share, fuel):
    """Return True if a program is valid and it is known that no threads race on the share."""
    try:
        machine = compile_program(program)
    except BadProgram:
        return False
    return is_never(machine, races_of(program, machine, share), fuel)
