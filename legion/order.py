"""The order of situations: which ones cover others, and which are the least ones."""

from legion.floor import Floor, packed


def covers(first, second):
    """Return True if the first situation covers the second one, otherwise False."""
    if first[0] != second[0]:
        return False
    for many, few in zip(first[1], second[1]):
        if many < few:
            return False
    return True


def least_ones(situations):
    """Return the situations that cover no other one, each once, in ascending order."""
    by_threads = {}
    for situation in situations:
        rivals = by_threads.setdefault(sum(situation[1]), {})
        rivals[packed(situation)] = situation
    least = []
    floor = Floor([])
    # A situation has more threads than each other one that it covers.
    for threads in sorted(by_threads):
        rivals = by_threads[threads]
        fresh = [one for one in rivals if not floor.is_under(one)]
        for one in fresh:
            floor.keep(one)
            state, counts = rivals[one]
            least.append((state, list(counts)))
    return sorted(least)


def is_above(situation, basis):
    """Return True if a situation covers an element of a list, otherwise False."""
    for element in basis:
        if covers(situation, element):
            return True
    return False
