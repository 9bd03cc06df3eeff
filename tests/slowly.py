"""What the points 21 to 34 say, done word by word, however long it takes."""

import itertools


def covers_by_words(first, second):
    """If the first situation, which may be wide, covers the second one."""
    return first[0] == second[0] and all(
        many is None or (few is not None and many >= few)
        for many, few in zip(first[1], second[1])
    )


def above(situation, basis):
    """If a situation covers an element of a list."""
    return any(covers_by_words(situation, element) for element in basis)


def covered(situation, wides):
    """If one of several wide situations covers a situation, which may be wide."""
    return any(covers_by_words(wide, situation) for wide in wides)


def least_by_words(situations):
    """The least ones, as the point says it word by word."""
    kept = []
    for one in situations:
        others = [other for other in situations if other != one]
        if not above(one, others) and one not in kept:
            kept.append(one)
    return sorted(kept)


def thread_list(situation):
    """The place of each thread, in ascending order."""
    return [place for place, count in enumerate(situation[1]) for _ in range(count)]


def moved(machine, situation, move):
    """The situation after a move, made thread by thread, or None."""
    state, place, next_state, next_place, started, shifts = move
    threads = thread_list(situation)
    if situation[0] != state or place not in threads:
        return None
    threads.remove(place)
    threads = [dict(shifts).get(thread, thread) for thread in threads]
    threads.append(next_place)
    if started is not None:
        threads.append(started)
    return (next_state, [threads.count(at) for at in range(machine[1])])


def with_threads(machine, state, most):
    """All situations with a shared state and at most so many threads."""
    found = []
    for many in range(most + 1):
        for places in itertools.combinations_with_replacement(range(machine[1]), many):
            found.append((state, [places.count(at) for at in range(machine[1])]))
    return found


def predecessors_by_words(machine, move, situation):
    """The least situations in which a move is possible and leads above a situation."""
    taken = machine[4][move]
    # Nothing that is least has threads that are neither moved nor needed.
    tried = with_threads(machine, taken[0], sum(situation[1]) + 1)
    found = []
    for one in tried:
        then = moved(machine, one, taken)
        if then is not None and covers_by_words(then, situation):
            found.append(one)
    return least_by_words(found)


def layers_by_words(machine, bad, fuel, predecessors):
    """The layers, or None, if predecessors finds all predecessors of one situation."""
    found = [least_by_words(bad)]
    while fuel > 0 and len(found[-1]) <= 2000:
        more = list(found[-1])
        for situation in found[-1]:
            for move in range(len(machine[4])):
                more.extend(predecessors(machine, move, situation))
        unequal = [one for at, one in enumerate(more) if one not in more[:at]]
        following = least_by_words(unequal)
        fuel -= 1
        if following == found[-1]:
            return found
        found.append(following)
    return None


def least_run(machine, situation, bad, most):
    """The shortest run to a situation above bad, the least of several, or None beyond so many."""
    runs = [([], situation)]
    seen = [situation]
    for _ in range(most + 1):
        for run, now in runs:
            if above(now, bad):
                return run
        longer = []
        for run, now in runs:
            for at, move in enumerate(machine[4]):
                then = moved(machine, now, move)
                if then is not None and then not in seen:
                    seen.append(then)
                    longer.append((run + [at], then))
        runs = longer
    return None


def is_certificate_by_words(machine, bad, chosen, predecessors):
    """If a list has the two properties of a certificate."""
    return all(above(one, chosen) for one in bad) and all(
        above(one, chosen)
        for element in chosen for move in range(len(machine[4]))
        for one in predecessors(machine, move, element)
    )


def wide_moved(situation, move):
    """The wide situation after a move without shifts, or None."""
    state, place, next_state, next_place, started, _ = move
    counts = list(situation[1])
    if situation[0] != state or counts[place] == 0:
        return None
    if counts[place] is not None:
        counts[place] -= 1
    if counts[next_place] is not None:
        counts[next_place] += 1
    if started is not None and counts[started] is not None:
        counts[started] += 1
    return (next_state, counts)


def explored_by_words(machine, most):
    """All explored wide situations, or None if there are more than so many."""
    state, counts = machine[2]
    first = (state, [None if at == machine[3] else many for at, many in enumerate(counts)])
    explored = []
    queue = [(first, [])]
    while queue:
        now, chain = queue.pop(0)
        if covered(now, explored):
            continue
        for ancestor in chain:
            if covers_by_words(now, ancestor):
                now = (now[0], [
                    None if many is not None and many > before else many
                    for many, before in zip(now[1], ancestor[1])
                ])
        explored.append(now)
        if len(explored) > most:
            return None
        for move in machine[4]:
            then = wide_moved(now, move)
            if then is not None:
                queue.append((then, chain + [now]))
    return explored


def cover_of(explored):
    """The cover, given all explored wide situations."""
    found = []
    for at, one in enumerate(explored):
        if not covered(one, explored[:at] + explored[at + 1:]):
            found.append(one)
    infinite = float("inf")
    return sorted(found, key=lambda one: (
        one[0], [infinite if many is None else many for many in one[1]]
    ))


def is_closed_by_words(machine, chosen):
    """If a list of wide situations is closed."""
    state, counts = machine[2]
    first = (state, [None if at == machine[3] else many for at, many in enumerate(counts)])
    after = [wide_moved(one, move) for one in chosen for move in machine[4]]
    return all(covered(one, chosen) for one in [first] + after if one is not None)
