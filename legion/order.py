"""The order of situations: which ones cover others, and which are the least ones."""


def covers(first, second):
    """Return True if the first situation covers the second one, otherwise False."""
    if first[0] != second[0]:
        return False
    for many, few in zip(first[1], second[1]):
        if many < few:
            return False
    return True


def least_ones(situations):
    """Return the situations that cover no other one, each once, in ascending order."""
    least = []
    rivals = []
    state = None
    # A situation comes behind all others that it covers, and behind those equal to it.
    for situation in sorted(situations):
        if situation[0] != state:
            state = situation[0]
            rivals = []
        if not is_above(situation, rivals):
            kept = (state, list(situation[1]))
            least.append(kept)
            rivals.append(kept)
    return least


def is_above(situation, basis):
    """Return True if a situation covers an element of a list, otherwise False."""
    for element in basis:
        if covers(situation, element):
            return True
    return False
