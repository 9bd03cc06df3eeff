"""The order of situations: which ones cover others, and which are the least ones."""

from legion.floor import Floor


def covers(first, second):
    """Return True if the first situation covers the second one, otherwise False."""
    if first[0] != second[0]:
        return False
    for many, few in zip(first[1], second[1]):
        if many < few:
            return False
    return True


def least_ones(situations):
    """Return the situations that cover no other one, each once, in ascending order."""
    by_threads = {}
    for state, counts in situations:
        by_threads.setdefault(sum(counts), {})[(state, tuple(counts))] = True
    least = []
    floor = Floor([])
    # A situation has more threads than each other one that it covers.
    for threads in sorted(by_threads):
        rivals = [(state, list(counts)) for state, counts in by_threads[threads]]
        fresh = [situation for situation in rivals if not floor.is_under(situation)]
        for situation in fresh:
            floor.keep(situation)
        least.extend(fresh)
    return sorted(least)


def is_above(situation, basis):
    """Return True if a situation covers an element of a list, otherwise False."""
    for element in basis:
        if covers(situation, element):
            return True
    return False
