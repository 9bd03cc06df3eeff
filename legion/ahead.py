"""Searching forwards: wide situations, and the cover of what can be reached."""

from collections import deque

from legion.errors import NotPossible, OutOfRange
from legion.runs import move_at, start_with


def wide_covers(first, second):
    """Return True if the first wide situation covers the second one, otherwise False."""
    if first[0] != second[0]:
        return False
    for many, few in zip(first[1], second[1]):
        if many is not None and (few is None or many < few):
            return False
    return True


def wide_after(machine, situation, move):
    """Return the wide situation after the move with this index."""
    taken = move_at(machine, move)
    # With shifts nothing is said of wide situations: so there is none to return.
    if taken[5] or not can_take_wide(situation, taken):
        raise NotPossible("a move is not possible in this wide situation")
    return taken_wide(situation, taken)


def explore(machine, *, fuel):
    """Return the cover of a machine, or None if the fuel is not enough."""
    if fuel < 0:
        raise OutOfRange("there is no fuel below 0")
    refuse_shifts(machine)
    explorer = Explorer()
    queue = deque()
    queue.append((beginning(machine), None))
    while queue:
        situation, parent = queue.popleft()
        if not explorer.knows(situation):
            if len(explorer.explored) == fuel:
                return None
            wide = explorer.enter(situation, parent)
            at = len(explorer.explored) - 1
            for other in successors(machine, wide):
                queue.append((other, at))
    return explorer.cover()


def is_closed(machine, chosen):
    """Return True if a list of wide situations is closed for a machine, otherwise False."""
    refuse_shifts(machine)
    if not is_covered(beginning(machine), chosen):
        return False
    for situation in chosen:
        for other in successors(machine, situation):
            if not is_covered(other, chosen):
                return False
    return True


class Explorer:
    """The explored wide situations of one search."""

    def __init__(self):
        self.explored = []
        # For each of them the index of the one from which it was reached, or None.
        self.parents = []
        # The same wide situations by their shared states.
        self.by_state = {}
        self.asked = {}

    def knows(self, situation):
        """Return True if an explored wide situation covers this one.

        It must be entered if it is not known.
        """
        key = (situation[0], tuple(situation[1]))
        # What was asked before was known then, or has been entered since.
        if key in self.asked:
            return True
        self.asked[key] = True
        return is_covered(situation, self.by_state.get(situation[0], []))

    def enter(self, situation, parent):
        """Widen a wide situation and keep it as an explored one; return it."""
        wide = situation
        for ancestor in self.ancestors(parent):
            if wide_covers(wide, ancestor):
                wide = widened(wide, ancestor)
        self.explored.append(wide)
        self.parents.append(parent)
        self.by_state.setdefault(wide[0], []).append(wide)
        return wide

    def ancestors(self, parent):
        """Return the ancestors of what is reached from the parent, from the first one on."""
        chain = []
        at = parent
        while at is not None:
            chain.append(self.explored[at])
            at = self.parents[at]
        chain.reverse()
        return chain

    def cover(self):
        """Return the explored ones that no other one covers, in ascending order."""
        greatest = []
        for at, wide in enumerate(self.explored):
            # Those before it do not cover it: otherwise it would have been dropped.
            if not is_covered(wide, self.explored[at + 1:]):
                greatest.append(wide)
        return sorted(greatest, key=rank_of_wide)


def is_covered(situation, wides):
    """Return True if one of the wide situations covers this one, otherwise False."""
    for wide in wides:
        if wide_covers(wide, situation):
            return True
    return False


def widened(situation, ancestor):
    """Return the wide situation with None for each count that is greater than the ancestor's."""
    counts = []
    for count, before in zip(situation[1], ancestor[1]):
        # If the ancestor's is None, so is the count, because it is covered.
        grows = count is not None and count > before
        counts.append(None if grows else count)
    return (situation[0], counts)


def rank_of_wide(situation):
    """Return what wide situations are sorted by: None is greater than all numbers."""
    ranks = [(0, count) if count is not None else (1, 0) for count in situation[1]]
    return (situation[0], ranks)


def beginning(machine):
    """Return the start, as a wide situation with any number of crew threads."""
    state, counts = start_with(machine, 0)
    counts[machine[3]] = None
    return (state, counts)


def successors(machine, situation):
    """Return the wide situations after each possible move, in the order of the moves."""
    return [taken_wide(situation, move) for move in machine[4] if can_take_wide(situation, move)]


def can_take_wide(situation, move):
    """Return True if a move, given as its tuple, is possible in a wide situation."""
    count = situation[1][move[1]]
    return move[0] == situation[0] and (count is None or count > 0)


def taken_wide(situation, move):
    """Return the wide situation after a possible move without shifts, given as its tuple."""
    _, place, next_state, next_place, started, _ = move
    counts = list(situation[1])
    for changed, change in ((place, -1), (next_place, 1), (started, 1)):
        if changed is not None and counts[changed] is not None:
            counts[changed] += change
    return (next_state, counts)


def refuse_shifts(machine):
    """Raise NotPossible if a move of the machine has shifts."""
    for move in machine[4]:
        if move[5]:
            raise NotPossible("the search forwards knows no shifts")
