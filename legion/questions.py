"""Questions about programs: the situations that are bad for each of them."""

from itertools import permutations

from legion.errors import OutOfRange
from legion.flow import held_at, kind_rows, marks_of, points_of
from legion.machine import Layout, compile_program
from legion.order import least_ones


def broken_situations(program):
    """Return the situations with a thread at a broken point."""
    layout = Layout(program)
    points = [(at, points_of(kind)[2]) for at, kind in enumerate(program[3])]
    choices = [(place,) for place in places_at(layout, points)]
    return with_threads(layout, [choices for _ in range(layout.states)])


def mark_situations(program, first, second):
    """Return the situations with a thread at the first mark and another one at the second."""
    layout = Layout(program)
    places = places_at(layout, points_with_mark(program, first))
    others = places_at(layout, points_with_mark(program, second))
    choices = pairs_of(places, others)
    return with_threads(layout, [choices for _ in range(layout.states)])


def race_situations(program, share):
    """Return the situations in which two threads race on a share."""
    check_share(program, share)
    return races_of(program, compile_program(program), share)


def races_of(program, machine, share):
    """Return the situations of race_situations, given the machine of the program, too."""
    layout = Layout(program)
    places = places_at(layout, points_where(program, share, accesses))
    setters = places_at(layout, points_where(program, share, sets))
    moving = {(move[0], move[1]): True for move in machine[4]}
    choices_by_state = []
    for state in range(layout.states):
        ready = [place for place in places if (state, place) in moving]
        setting = [place for place in setters if (state, place) in moving]
        choices_by_state.append(pairs_of(setting, ready))
    return with_threads(layout, choices_by_state)


def knot_situations(program):
    """Return the situations in which threads wait for each other's locks in a ring."""
    layout = Layout(program)
    wanted, held = locks_by_place(program, layout)
    knots = least_ones([(0, counts_of(layout, ring)) for ring in rings(program[1], wanted, held)])
    found = []
    for state in range(layout.states):
        taken = layout.state_values(state)[1]
        for _, counts in knots:
            # Each lock of a ring is wanted at one of its places.
            if all([wanted[place] in taken for place in wanted if counts[place] > 0]):
                found.append((state, list(counts)))
    return found


def check_share(program, share):
    """Raise OutOfRange if a name is not that of a share."""
    if share not in [variable[0] for variable in program[0]]:
        raise OutOfRange("there is no such share")


def places_at(layout, points):
    """Return the ascending list of the places at the given pairs (kind, point)."""
    return [
        place for place in range(layout.places)
        if layout.place_values(place)[:2] in points
    ]


def counts_of(layout, places):
    """Return the counts with one thread for each time that a place is in the list."""
    counts = [0] * layout.places
    for place in places:
        counts[place] += 1
    return counts


def pairs_of(places, others):
    """Return the pairs of one of the places and one of the others, each once."""
    pairs = [(min(one, other), max(one, other)) for one in places for other in others]
    return sorted(set(pairs))


def with_threads(layout, choices_by_state):
    """Return, in ascending order, the situations with threads at the places of a choice.

    There is a list of choices for each shared state. Each choice is an ascending
    tuple, and all are equally long: so no situation covers another one.
    """
    found = []
    for state, choices in enumerate(choices_by_state):
        # The earlier a place, the more it counts when situations are compared.
        for places in sorted(choices, reverse=True):
            found.append((state, counts_of(layout, places)))
    return found


def points_with_mark(program, mark):
    """Return the pairs (kind, point) with a mark. Raise OutOfRange if there are none."""
    points = [
        (at, point)
        for at, kind in enumerate(program[3])
        for name, point in marks_of(kind)
        if name == mark
    ]
    if not points:
        raise OutOfRange("there is no such mark")
    return points


def points_where(program, share, fits):
    """Return the pairs (kind, point) whose statement fits the share."""
    return [
        (at, row[0])
        for at, kind in enumerate(program[3])
        for row in kind_rows(kind)
        if fits(row[1], share)
    ]


def sets(statement, share):
    """Return True if a statement sets a share."""
    return statement[0] == "set" and statement[1] == share


def accesses(statement, share):
    """Return True if a statement itself, not one in its bodies, reads or sets a share."""
    word = statement[0]
    if word == "set":
        return statement[1] == share or mentions(statement[2], share)
    # Other names, of a mark for example, may be equal to that of the share.
    return word in ("check", "await", "if", "loop") and mentions(statement[1], share)


def mentions(part, name):
    """Return True if a name occurs in a value or a condition."""
    if isinstance(part, tuple):
        return any([mentions(inner, name) for inner in part[1:]])
    return part == name


def locks_by_place(program, layout):
    """Return two dicts, by the places that acquire a lock: this lock, and the locks held before."""
    wanted = {}
    held = {}
    for at, kind in enumerate(program[3]):
        held_before = held_at(kind)
        for row in kind_rows(kind):
            if row[1][0] == "acquire":
                for place in places_at(layout, [(at, row[0])]):
                    wanted[place] = row[1][1]
                    held[place] = held_before[row[0]]
    return (wanted, held)


def rings(locks, wanted, held):
    """Return lists of places: at each one a thread holds what is wanted at the one before."""
    found = []
    for size in range(2, len(locks) + 1):
        for ring in permutations(locks, size):
            # The other sequences only begin at another lock of the same ring.
            if ring[0] == min(ring):
                steps = [
                    [place for place in wanted if wanted[place] == after and before in held[place]]
                    for before, after in zip(ring, ring[1:] + ring[:1])
                ]
                found.extend(choices_of(steps))
    return found


def choices_of(steps):
    """Return all lists with one item of each of the steps."""
    choices = [[]]
    for step in steps:
        choices = [[*choice, item] for choice in choices for item in step]
    return choices
