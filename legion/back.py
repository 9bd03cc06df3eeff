"""Searching backwards: the predecessors of situations, and the layers of bad ones."""

from legion.errors import OutOfRange
from legion.floor import Floor
from legion.order import least_ones
from legion.runs import copied, move_at

MOST_ELEMENTS = 2000


def predecessors(machine, move, situation):
    """Return the ascending list of the predecessors by the move with this index."""
    gatherer = Gatherer(Floor([]), None)
    gatherer.gather(move_at(machine, move), situation)
    gatherer.settle()
    return sorted(gatherer.found)


def layers(machine, bad, *, fuel):
    """Return the list of the layers of bad situations, or None if the fuel is not enough."""
    rows = searched(machine, bad, fuel)
    if rows is None:
        return None
    return [[copied(situation) for situation in layer] for layer, _ in rows]


def searched(machine, bad, fuel):
    """Return a pair for each layer: the layer, and what is new in it; or None.

    Here several layers hold the same situations.
    """
    if fuel < 0:
        raise OutOfRange("there is no fuel below 0")
    moves = moves_by_target(machine)
    layer = least_ones(bad)
    floor = Floor(layer)
    rows = [(layer, layer)]
    for _ in range(fuel):
        if len(layer) > MOST_ELEMENTS:
            return None
        # The predecessors of what is not new are above this layer already.
        fresh = fresh_ones(moves, floor, rows[-1][1], MOST_ELEMENTS)
        if not fresh:
            return rows
        kept = not_above(layer, fresh)
        if len(kept) < len(layer):
            floor = Floor(kept + fresh)
        layer = sorted(kept + fresh)
        rows.append((layer, fresh))
    return None


def not_above(situations, fresh):
    """Return the situations that are not above the fresh ones, to which they are not equal."""
    fewest = min([sum(counts) for _, counts in fresh])
    floor = Floor(fresh)
    return [
        situation for situation in situations
        if sum(situation[1]) <= fewest or not floor.is_under(situation)
    ]


def fresh_ones(moves, floor, situations, most):
    """Return the least ones of the predecessors of situations that are not above a floor.

    The moves are those of moves_by_target. The floor grows by what is
    returned. The search ends early if it finds more than the most wanted.
    """
    gatherer = Gatherer(floor, most)
    tasks = tasks_by_threads(moves, situations)
    # None covers another one with as many threads, or with more: so whatever is
    # gathered in this order is one of the least ones.
    for threads in sorted(tasks):
        for move, situation in tasks[threads]:
            gatherer.gather(move, situation)
        gatherer.settle()
    return gatherer.found


def tasks_by_threads(moves, situations):
    """Return the pairs of a move and a situation, by the threads that its predecessors have.

    Pairs whose predecessors are above the situation itself are left out.
    """
    tasks = {}
    for situation in situations:
        state, counts = situation
        targets = [place for place, count in enumerate(counts) if count > 0]
        for target in [None, *targets]:
            for move in moves.get((state, target), []):
                threads = sum(needed(move, counts)) + 1
                tasks.setdefault(threads, []).append((move, situation))
    return tasks


def moves_by_target(machine):
    """Return a dict of the moves, by the shared state to which they lead, and by a place.

    The place is None for a move that may matter to each situation with this
    shared state; others matter only if there is a thread at the place.
    """
    moves = {}
    for move in machine[4]:
        state, _, next_state, next_place, started, shifts = move
        targets = [next_place, started]
        if state != next_state or shifts:
            targets = [None]
        elif started is None or started == next_place:
            targets = [next_place]
        for target in targets:
            moves.setdefault((next_state, target), []).append(move)
    return moves


def needed(move, counts):
    """Return the counts that are needed besides the threads that the move itself brings."""
    need = list(counts)
    for place in (move[3], move[4]):
        if place is not None and need[place] > 0:
            need[place] -= 1
    return need


def taken_apart(need, shifts):
    """Take what must be divided out of the needs, and return it as groups (many, places)."""
    sources = {}
    for first, second in shifts:
        sources.setdefault(second, []).append(first)
    groups = []
    for second, firsts in sources.items():
        if need[second] > 0:
            groups.append((need[second], [*firsts, second]))
            need[second] = 0
    return groups


class Gatherer:
    """Gathers predecessors that are not above a floor.

    What is gathered between two calls of settle has the same number of threads.
    """

    def __init__(self, floor, most):
        self.floor = floor
        self.most = most
        self.found = []
        self.batch = {}

    def is_full(self):
        """Return True if there are more situations than the most that are wanted."""
        return self.most is not None and len(self.found) + len(self.batch) > self.most

    def settle(self):
        """Make what was gathered a part of the floor."""
        for state, counts in self.batch:
            situation = (state, list(counts))
            self.found.append(situation)
            self.floor.keep(situation)
        self.batch = {}

    def gather(self, move, situation):
        """Gather the predecessors of a situation by a move, which is given as its tuple."""
        state, place, next_state, _, _, shifts = move
        if situation[0] != next_state or self.is_full():
            return
        need = needed(move, situation[1])
        if sum([need[first] for first, _ in shifts]) > 0:
            return
        groups = taken_apart(need, shifts)
        need[place] += 1
        if not self.floor.is_under((state, need)):
            self.divide(state, need, groups)

    def divide(self, state, counts, groups):
        """Gather the counts together with each division of each group (many, places).

        The counts alone are not above the floor.
        """
        if not groups:
            self.batch[(state, tuple(counts))] = True
            return
        many, places = groups[0]
        fewest = many if len(places) == 1 else 0
        for few in range(fewest, many + 1):
            more = list(counts)
            more[places[0]] += few
            # If this is above the floor, so is everything with still more threads here.
            if self.is_full() or self.floor.is_under((state, more)):
                return
            rest = groups[1:]
            if few < many:
                rest = [(many - few, places[1:]), *rest]
            self.divide(state, more, rest)
