"""Programs, executed statement by statement by as many threads as there are.

A thread is a tuple (kind, todo, values, locks, mode): todo is what it has yet to
execute, () or a tuple (statements, todo after these); values are those of its locals;
locks are those that it holds; mode is "going", "broken", or ("resting", bell).
"""

import itertools

from legion.program import fitted, holds, value_of


def statements_in_order(body):
    """All statements of a body, those in bodies included, as they are written."""
    found = []
    for statement in body:
        found.append(statement)
        for inner in inner_bodies(statement):
            found.extend(statements_in_order(inner))
    return found


def inner_bodies(statement):
    """The bodies of a statement."""
    if statement[0] == "choose":
        return statement[1]
    return [part for part in statement if isinstance(part, list)]


def frozen(part):
    """A body with tuples in place of lists."""
    if isinstance(part, (list, tuple)):
        return tuple(frozen(inner) for inner in part)
    return part


def settled(todo):
    """What is left to do, without finished bodies before it."""
    while todo and not todo[0]:
        todo = todo[1]
    return todo


def next_statement(thread):
    """The statement that a thread executes next, or None."""
    kind, todo, values, locks, mode = thread
    return todo[0][0] if todo and mode == "going" else None


class Execution:
    """Threads that execute one program; a world is (values of shares, threads)."""

    def __init__(self, program):
        self.shares, self.locks, _, self.kinds = program
        self.bodies = [frozen(kind[3]) for kind in self.kinds]
        self.names = [kind[0] for kind in self.kinds]

    def new_thread(self, kind):
        """A thread that has just been started."""
        values = tuple(variable[3] for variable in self.kinds[kind][2])
        return (kind, settled((self.bodies[kind], ())), values, (), "going")

    def beginning(self, crew):
        """The world at the start, with so many crew threads."""
        threads = []
        for at, kind in enumerate(self.kinds):
            threads += [self.new_thread(at)] * (crew if kind[1] is None else kind[1])
        return (tuple(share[3] for share in self.shares), self.ordered(threads))

    def ordered(self, threads):
        """The threads in an order that does not depend on when they came."""
        return tuple(sorted(threads, key=repr))

    def known(self, world, thread):
        """The values of all variables of a thread."""
        values = {share[0]: number for share, number in zip(self.shares, world[0])}
        for variable, number in zip(self.kinds[thread[0]][2], thread[2]):
            values[variable[0]] = number
        return values

    def taken(self, world):
        """The locks that are held."""
        return {lock for thread in world[1] for lock in thread[3]}

    def steps(self, world, thread):
        """For each way on: the thread afterwards, the shares, a bell rung, a kind started."""
        statement = next_statement(thread)
        if statement is None:
            return []
        kind, todo, values, locks, mode = thread
        word = statement[0]
        rest = settled((todo[0][1:], todo[1]))
        known = self.known(world, thread)
        on = (kind, rest, values, locks, mode)
        if word == "set":
            return [self.after_set(world, on, statement, known)]
        if word == "acquire":
            if statement[1] in self.taken(world):
                return []
            return [((*on[:3], locks + (statement[1],), mode), world[0], None, None)]
        if word == "release":
            left = tuple(lock for lock in locks if lock != statement[1])
            return [((*on[:3], left, mode), world[0], None, None)]
        if word == "rest":
            return [((*on[:4], ("resting", statement[1])), world[0], None, None)]
        if word == "wake":
            return [(on, world[0], statement[1], None)]
        if word == "start":
            return [(on, world[0], None, self.names.index(statement[1]))]
        if word == "choose":
            return [self.inside(world, on, body, rest) for body in statement[1]]
        if word in ("check", "await", "if", "loop"):
            return self.after_condition(world, on, statement, known, todo)
        return [(on, world[0], None, None)]

    def inside(self, world, on, body, rest):
        """The step into a body behind which the rest is to be done."""
        return ((on[0], settled((body, rest)), *on[2:]), world[0], None, None)

    def after_set(self, world, on, statement, known):
        """The step of a set."""
        name, number = statement[1], value_of(statement[2], known)
        shares, values = list(world[0]), list(on[2])
        for at, share in enumerate(self.shares):
            if share[0] == name:
                shares[at] = fitted(share, number)
        for at, variable in enumerate(self.kinds[on[0]][2]):
            if variable[0] == name:
                values[at] = fitted(variable, number)
        return ((*on[:2], tuple(values), *on[3:]), tuple(shares), None, None)

    def after_condition(self, world, on, statement, known, todo):
        """The step of a statement with a condition, as a list of at most one."""
        true = holds(statement[1], known)
        word = statement[0]
        if word == "if":
            return [self.inside(world, on, statement[2] if true else statement[3], on[1])]
        if word == "loop" and true:
            return [self.inside(world, on, statement[2], todo)]
        if word == "await" and not true:
            return []
        if word == "check" and not true:
            return [((on[0], (), *on[2:4], "broken"), world[0], None, None)]
        return [(on, world[0], None, None)]

    def successors(self, world):
        """The worlds after each step of each thread."""
        found = []
        for at, thread in enumerate(world[1]):
            for after, shares, bell, started in self.steps(world, thread):
                threads = list(world[1][:at] + world[1][at + 1:])
                threads = [
                    (*other[:4], "going") if other[4] == ("resting", bell) else other
                    for other in threads
                ]
                threads.append(after)
                if started is not None:
                    threads.append(self.new_thread(started))
                found.append((shares, self.ordered(threads)))
        return found

    def reachable(self, crew, most):
        """The worlds that so many crew threads can reach, with the number of steps; or None."""
        worlds = {self.beginning(crew): 0}
        newest = list(worlds)
        while newest:
            following = []
            for world in newest:
                for other in self.successors(world):
                    if other not in worlds:
                        worlds[other] = worlds[world] + 1
                        following.append(other)
            if len(worlds) > most:
                return None
            newest = following
        return worlds

    def broken(self, world):
        """If a check of a thread did not hold."""
        return any(thread[4] == "broken" for thread in world[1])

    def at_marks(self, world, first, second):
        """If two threads are about to pass the two marks."""
        return any(
            next_statement(one) == ("mark", first) and next_statement(other) == ("mark", second)
            for one, other in itertools.permutations(world[1], 2)
        )

    def racing(self, world, share):
        """If two threads can take steps that access the share, and one of them sets it."""
        ready = [thread for thread in world[1] if self.steps(world, thread)]
        return any(
            sets_share(next_statement(one), share) and touches(next_statement(other), share)
            for one, other in itertools.permutations(ready, 2)
        )

    def knotted(self, world):
        """If threads wait for each other's locks in a ring."""
        waiting = {}
        for thread in world[1]:
            statement = next_statement(thread)
            if statement is not None and statement[0] == "acquire":
                for lock in thread[3]:
                    waiting.setdefault(lock, []).append(statement[1])
        for lock in waiting:
            reached = list(waiting[lock])
            for other in reached:
                reached.extend(one for one in waiting.get(other, []) if one not in reached)
            if lock in reached:
                return True
        return False


def sets_share(statement, share):
    """If a statement sets a share."""
    return statement[:2] == ("set", share)


def touches(statement, share):
    """If a statement reads or sets a share, without what its bodies do."""
    words = {"set": 3, "check": 2, "await": 2, "if": 2, "loop": 2}
    return share in flat(statement[1:words.get(statement[0], 0)])


def flat(part):
    """All that occurs in nested tuples."""
    if isinstance(part, tuple):
        return [one for inner in part for one in flat(inner)]
    return [part]
