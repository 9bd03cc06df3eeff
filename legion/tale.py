"""Tales: runs of programs, told move by move."""

from legion.flow import lines_of
from legion.machine import Layout, compile_program
from legion.runs import follow, start_with


def tell_run(program, crew, run):
    """Return the tale of a run from the start with so many crew threads."""
    return tale_of(program, compile_program(program), crew, run)


def tale_of(program, machine, crew, run):
    """Return the tale of a run, given the machine of the program, too."""
    layout = Layout(program)
    lines = [lines_of(kind) for kind in program[3]]
    situations = follow(machine, start_with(machine, crew), run)
    tale = []
    for move, (state, _) in zip(run, situations[1:]):
        kind, point, _ = layout.place_values(machine[4][move][1])
        told = f"{program[3][kind][0]}: {lines[kind][point]} ->"
        tale.append(told + told_state(layout, state))
    return tale


def told_state(layout, state):
    """Return the text of the values of the shares and of the locks that are held."""
    values, held = layout.state_values(state)
    words = [f" {name}={number}" for name, number in values.items()]
    words.extend([" " + lock for lock in held])
    return "".join(words)
