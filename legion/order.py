"""The order of situations: which ones cover others, and which are the least ones."""

from legion.floor import Floor, packed


def covers(first, second):
    """Return True if the first situation covers the second one, otherwise False."""
    if first[0] != second[0]:
        return False
    for many, few in zip(first[1], second[1]):
        if many < few:
            return False
    return True


def least_ones(situations):
    """Return the situations that cover no other one, each once, in ascending order."""
    return sorted(some_least_ones(situations, None))


def some_least_ones(situations, most):
    """Return the least ones, in any order; or only some of them if there are more than the most."""
    by_threads = {}
    for situation in situations:
        by_threads.setdefault(sum(situation[1]), []).append(situation)
    least = []
    floor = Floor([])
    # A situation has more threads than each other one that it covers.
    for threads in sorted(by_threads):
        fresh = {}
        for situation in by_threads[threads]:
            one = packed(situation)
            if one not in fresh and not floor.is_under(one):
                fresh[one] = True
                least.append((situation[0], list(situation[1])))
                if most is not None and len(least) > most:
                    return least
        for one in fresh:
            floor.keep(one)
    return least


def is_above(situation, basis):
    """Return True if a situation covers an element of a list, otherwise False."""
    for element in basis:
        if covers(situation, element):
            return True
    return False
