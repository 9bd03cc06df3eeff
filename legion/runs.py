"""Runs: which moves are possible in a situation, and where they lead."""

from legion.errors import NotPossible, OutOfRange


def start_with(machine, crew):
    """Return the start of a machine with so many crew threads."""
    if crew < 0:
        raise OutOfRange("there are no fewer than 0 crew threads")
    state, counts = machine[2]
    threads = list(counts)
    threads[machine[3]] += crew
    return (state, threads)


def is_possible(machine, situation, move):
    """Return True if the move with this index is possible, otherwise False."""
    return can_take(situation, move_at(machine, move))


def after(machine, situation, move):
    """Return the situation after the move with this index."""
    taken = move_at(machine, move)
    if not can_take(situation, taken):
        raise NotPossible("a move is not possible in this situation")
    _, place, next_state, next_place, started, shifts = taken
    counts = list(situation[1])
    counts[place] -= 1
    for first, second in shifts:
        counts[second] += counts[first]
        counts[first] = 0
    counts[next_place] += 1
    if started is not None:
        counts[started] += 1
    return (next_state, counts)


def possible_moves(machine, situation):
    """Return the ascending list of the indexes of the possible moves."""
    return [at for at, move in enumerate(machine[4]) if can_take(situation, move)]


def follow(machine, situation, run):
    """Return the list of the situations of a run, the first one included."""
    return list(situations(machine, situation, run))


def situations(machine, situation, run):
    """Yield the situations of a run, the first one included."""
    # Who gets a situation may change its list, so each one is yielded as a copy.
    now = situation
    yield copied(now)
    for move in run:
        now = after(machine, now, move)
        yield copied(now)


def scheduled(machine, situation, schedule):
    """Return the run that a schedule selects, a list of indexes of moves."""
    for choice in schedule:
        if choice < 0:
            raise OutOfRange("a schedule has no integers below 0")
    run = []
    now = situation
    for choice in schedule:
        possible = possible_moves(machine, now)
        if not possible:
            return run
        move = possible[choice % len(possible)]
        run.append(move)
        now = after(machine, now, move)
    return run


def copied(situation):
    """Return a situation that is equal, with a list of its own."""
    return (situation[0], list(situation[1]))


def move_at(machine, index):
    """Return the move with this index. Raise OutOfRange if there is none."""
    if not 0 <= index < len(machine[4]):
        raise OutOfRange("there is no such move")
    return machine[4][index]


def can_take(situation, move):
    """Return True if a move, given as its tuple, is possible in a situation."""
    return move[0] == situation[0] and situation[1][move[1]] > 0
