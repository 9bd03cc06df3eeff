"""Searching backwards: the predecessors of situations, and the layers of bad ones."""

from legion.errors import OutOfRange
from legion.floor import Floor, packed, unpacked
from legion.order import some_least_ones
from legion.runs import copied, move_at

MOST_ELEMENTS = 2000


def predecessors(machine, move, situation):
    """Return the ascending list of the predecessors by the move with this index."""
    gatherer = Gatherer(Floor([]), None)
    gatherer.gather(move_at(machine, move), packed(situation))
    gatherer.settle()
    return sorted([unpacked(one, machine[1]) for one in gatherer.found])


def layers(machine, bad, *, fuel):
    """Return the list of the layers of bad situations, or None if the fuel is not enough."""
    rows = searched(machine, bad, fuel)
    if rows is None:
        return None
    return [[copied(situation) for situation in layer] for layer, _ in rows]


def searched(machine, bad, fuel):
    """Return a pair for each layer: the layer, and, packed, what is new in it; or None.

    Here several layers hold the same situations.
    """
    if fuel < 0:
        raise OutOfRange("there is no fuel below 0")
    search = Search(machine, bad)
    rows = [(search.layer, search.fresh)]
    for _ in range(fuel):
        if search.is_too_long():
            return None
        if not search.advance():
            return rows
        rows.append((search.layer, search.fresh))
    return None


class Search:
    """The layers of bad situations, one after the other."""

    def __init__(self, machine, bad):
        self.places = machine[1]
        self.moves = moves_by_target(machine)
        self.layer = sorted(some_least_ones(bad, MOST_ELEMENTS))
        # What is new in this layer, packed.
        self.fresh = [packed(situation) for situation in self.layer]
        self.floor = Floor(self.fresh)

    def is_too_long(self):
        """Return True if the layer has too many elements. Then it need not be whole."""
        return len(self.layer) > MOST_ELEMENTS

    def advance(self):
        """Go on to the next layer. Return False, and stay, if it is equal to this one."""
        # The predecessors of what is not new are above this layer already.
        fresh = fresh_ones(self.moves, self.floor, self.fresh, MOST_ELEMENTS)
        if not fresh:
            return False
        kept = not_above(self.layer, fresh)
        if len(kept) < len(self.layer):
            self.floor = Floor([packed(situation) for situation in kept] + fresh)
        self.layer = sorted(kept + [unpacked(one, self.places) for one in fresh])
        self.fresh = fresh
        return True


def not_above(situations, fresh):
    """Return the situations that are not above the fresh ones, to which they are not equal."""
    fewest = min([sum(dict(pairs).values()) for _, pairs in fresh])
    floor = Floor(fresh)
    return [
        situation for situation in situations
        if sum(situation[1]) <= fewest or not floor.is_under(packed(situation))
    ]


def fresh_ones(moves, floor, situations, most):
    """Return the least ones of the predecessors of situations that are not above a floor.

    All situations are packed, and the moves are those of moves_by_target. The
    floor grows by what is returned. The search ends early if it finds more
    than the most that are wanted.
    """
    gatherer = Gatherer(floor, most)
    tasks = tasks_by_threads(moves, situations)
    # No situation covers another one with as many threads, or with more: so whatever
    # is gathered in this order is one of the least ones.
    for threads in sorted(tasks):
        for move, situation in tasks[threads]:
            gatherer.gather(move, situation)
        gatherer.settle()
    return gatherer.found


def tasks_by_threads(moves, situations):
    """Return the pairs of a move and a situation, by the threads that its predecessors have.

    Pairs whose predecessors are above the situation itself are left out.
    """
    tasks = {}
    for situation in situations:
        state, pairs = situation
        targets = [None] + [place for place, _ in pairs]
        for target in targets:
            for move in moves.get((state, target), []):
                threads = sum(needed(move, pairs).values()) + 1
                tasks.setdefault(threads, []).append((move, situation))
    return tasks


def moves_by_target(machine):
    """Return a dict of the moves, by the shared state to which they lead, and by a place.

    The place is None for a move that may matter to each situation with this
    shared state; others matter only if there is a thread at the place.
    """
    moves = {}
    for move in machine[4]:
        state, _, next_state, next_place, started, shifts = move
        targets = [next_place, started]
        if state != next_state or shifts:
            targets = [None]
        elif started is None or started == next_place:
            targets = [next_place]
        for target in targets:
            moves.setdefault((next_state, target), []).append(move)
    return moves


def needed(move, pairs):
    """Return a dict of the counts that are needed besides the threads that a move itself brings."""
    need = dict(pairs)
    for place in (move[3], move[4]):
        if place in need:
            need = with_added(need, place, -1)
    return need


def with_added(need, place, change):
    """Return a dict of the counts with a change at a place. Counts that are 0 are left out."""
    more = dict(need)
    count = more.pop(place, 0) + change
    if count > 0:
        more[place] = count
    return more


def taken_apart(need, shifts):
    """Take what must be divided out of the needs, and return it as groups (many, places)."""
    sources = {}
    for first, second in shifts:
        if second in need:
            sources.setdefault(second, []).append(first)
    groups = []
    for second, firsts in sources.items():
        groups.append((need.pop(second), [*firsts, second]))
    return groups


class Gatherer:
    """Gathers predecessors, packed, that are not above a floor.

    What is gathered between two calls of settle has the same number of threads.
    """

    def __init__(self, floor, most):
        self.floor = floor
        self.most = most
        self.found = []
        self.batch = {}

    def is_full(self):
        """Return True if there are more situations than the most that are wanted."""
        return self.most is not None and len(self.found) + len(self.batch) > self.most

    def settle(self):
        """Make what was gathered a part of the floor."""
        for situation in self.batch:
            self.found.append(situation)
            self.floor.keep(situation)
        self.batch = {}

    def gather(self, move, situation):
        """Gather the predecessors of a situation by a move, which is given as its tuple."""
        state, place, next_state, _, _, shifts = move
        if situation[0] != next_state:
            return
        need = needed(move, situation[1])
        if any([first in need for first, _ in shifts]):
            return
        groups = taken_apart(need, shifts)
        self.divide(state, with_added(need, place, 1), groups)

    def divide(self, state, need, groups):
        """Gather the needs together with each division of each group (many, places).

        Return False if the needs alone are above the floor, or nothing more is wanted.
        """
        situation = (state, tuple(sorted(need.items())))
        if self.is_full() or self.floor.is_under(situation):
            return False
        if not groups:
            self.batch[situation] = True
            return True
        many, places = groups[0]
        fewest = many if len(places) == 1 else 0
        for few in range(fewest, many + 1):
            rest = groups[1:]
            if few < many:
                rest = [(many - few, places[1:]), *rest]
            # With still more threads at this place it would be above the floor, too.
            if not self.divide(state, with_added(need, places[0], few), rest):
                break
        return True
