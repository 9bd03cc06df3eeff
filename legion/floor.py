"""Situations that are kept so that it is quickly told which other ones cover one of them.

A packed situation is a tuple (state, pairs) with a pair (place, count) for each place
that has threads, by ascending places. Most places of a situation have none.
"""


def packed(situation):
    """Return the packed form of a situation."""
    state, counts = situation
    return (state, tuple([(place, count) for place, count in enumerate(counts) if count > 0]))


def unpacked(situation, places):
    """Return the situation that has this packed form, given the number of places."""
    state, pairs = situation
    counts = [0] * places
    for place, count in pairs:
        counts[place] = count
    return (state, counts)


class Floor:
    """Packed situations, and whether another one covers one of them.

    For each shared state there is a tree. A node leads from a place, and from
    the count that is needed there, to the node of the needs at later places.
    An empty node has no needs any more: it is the end of a kept situation.
    """

    def __init__(self, situations):
        self.trees = {}
        for situation in situations:
            self.keep(situation)

    def keep(self, situation):
        """Keep one more situation, which covers none of those that are kept."""
        state, pairs = situation
        holder = self.trees
        key = state
        for place, count in pairs:
            node = holder.setdefault(key, {})
            holder = node.setdefault(place, {})
            key = count
        # What stood behind this node covers the situation, and is not needed any more.
        holder[key] = {}

    def is_under(self, situation):
        """Return True if a situation covers one of those that are kept, otherwise False."""
        state, pairs = situation
        return state in self.trees and meets(self.trees[state], pairs, 0)


def meets(node, pairs, first):
    """Return True if pairs meet all needs on some way from a node to an end.

    Only the pair at the index first and those behind it are looked at.
    """
    if not node:
        return True
    for at in range(first, len(pairs)):
        place, count = pairs[at]
        if place in node:
            for need, inner in node[place].items():
                if need <= count and meets(inner, pairs, at + 1):
                    return True
    return False
