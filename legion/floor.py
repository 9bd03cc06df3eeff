"""Situations that are kept so that it is quickly told which other ones cover one of them."""


class Floor:
    """Situations, and whether another one covers one of them.

    For each shared state there is a tree. A node leads from a place, and from
    the count that is needed there, to the node of the needs at later places.
    An empty node has no needs any more: it is the end of a kept situation.
    """

    def __init__(self, situations):
        self.trees = {}
        for situation in situations:
            self.keep(situation)

    def keep(self, situation):
        """Keep one more situation, which covers none of those that are kept."""
        state, counts = situation
        holder = self.trees
        key = state
        for place, count in enumerate(counts):
            if count > 0:
                node = holder.setdefault(key, {})
                holder = node.setdefault(place, {})
                key = count
        # What stood behind this node covers the situation, and is not needed any more.
        holder[key] = {}

    def is_under(self, situation):
        """Return True if a situation covers one of those that are kept, otherwise False."""
        state, counts = situation
        if state not in self.trees:
            return False
        places = [place for place, count in enumerate(counts) if count > 0]
        return meets(self.trees[state], counts, places, 0)


def meets(node, counts, places, first):
    """Return True if counts meet all needs on some way from a node to an end.

    places are those with threads, in ascending order; the needs are at the
    first of these that is given by its index, and behind it.
    """
    if not node:
        return True
    for at in range(first, len(places)):
        place = places[at]
        if place in node:
            for need, inner in node[place].items():
                if need <= counts[place] and meets(inner, counts, places, at + 1):
                    return True
    return False
