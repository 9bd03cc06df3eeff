"""The points of a kind, and the steps between them."""

from legion.errors import BadProgram
from legion.written import bodies_of, line_of


def steps_of(kind):
    """Return the list of the steps (point, action, next) of a kind."""
    rows = kind_rows(kind)
    broken = points_of(kind)[2]
    resting = len(rows) + 1
    steps = []
    for point, statement, follower, entries in rows:
        if statement[0] == "rest":
            steps.append((point, statement, resting))
            resting += 1
        else:
            for action, target in exits_of(statement, follower, entries, broken):
                steps.append((point, action, target))
    return steps


def points_of(kind):
    """Return the tuple (count, end, broken, rests) of a kind.

    rests is a list of tuples (bell, resting point, follower).
    """
    rows = kind_rows(kind)
    end = len(rows)
    rests = []
    for row in rows:
        statement = row[1]
        if statement[0] == "rest":
            rests.append((statement[1], end + 1 + len(rests), row[2]))
    broken = end + 1 + len(rests)
    return (broken + 1, end, broken, rests)


def marks_of(kind):
    """Return a tuple (name, point) for each mark statement of a kind."""
    return [(row[1][1], row[0]) for row in kind_rows(kind) if row[1][0] == "mark"]


def held_at(kind):
    """Return, for each point of a kind, the locks held there, by ascending names.

    Raise BadProgram if the kind does not use its locks properly.
    """
    found = []
    if locks_after_body(kind[3], [], found):
        raise BadProgram("a body of a kind ends while it holds a lock")
    others = points_of(kind)[0] - len(found)
    return found + [[] for _ in range(others)]


def lines_of(kind):
    """Return the written line of the statement of each point before the end point."""
    return [line_of(row[1]) for row in kind_rows(kind)]


def kind_rows(kind):
    """Return a row (point, statement, follower, entries) for each statement of a kind.

    entries are the points to which the step of the statement goes if it
    enters its first body, its second one, and so on.
    """
    body = kind[3]
    return body_rows(body, 0, size_of(body))


def size_of(body):
    """Return the number of the statements of a body, those in its bodies included."""
    size = len(body)
    for statement in body:
        for inner in bodies_of(statement):
            size += size_of(inner)
    return size


def body_rows(body, first, last_follower):
    """Return the rows of a body, given its first point and its last statement's follower."""
    rows = []
    for at, statement in enumerate(body):
        point = first + len(rows)
        follower = last_follower
        if at < len(body) - 1:
            follower = point + size_of([statement])
        rows.extend(statement_rows(statement, point, follower))
    return rows


def statement_rows(statement, point, follower):
    """Return the row of a statement and the rows of its bodies."""
    back = point if statement[0] == "loop" else follower
    entries = []
    inner_rows = []
    for body in bodies_of(statement):
        first = point + 1 + len(inner_rows)
        entries.append(first if body else back)
        inner_rows.extend(body_rows(body, first, back))
    return [(point, statement, follower, entries)] + inner_rows


def exits_of(statement, follower, entries, broken):
    """Return the pairs (action, next) of the steps of a statement that is no rest."""
    word = statement[0]
    if word == "choose":
        return [(("skip",), entry) for entry in entries]
    if word == "check":
        return branches(statement[1], follower, broken)
    if word == "if":
        return branches(statement[1], entries[0], entries[1])
    if word == "loop":
        return branches(statement[1], entries[0], follower)
    if word == "await":
        return [(("when", statement[1]), follower)]
    return [(statement, follower)]


def branches(condition, target, other_target):
    """Return the two pairs (action, next) of a step that depends on a condition."""
    return [(("when", condition), target), (("when", ("not", condition)), other_target)]


def locks_after_body(body, held, found):
    """Return the locks held after a body; add those held before each statement to found."""
    now = held
    for statement in body:
        found.append(list(now))
        now = locks_after(statement, now, found)
    return now


def locks_after(statement, held, found):
    """Return the locks held after a statement; add those within its bodies to found."""
    word = statement[0]
    if word == "acquire":
        return with_lock(held, statement[1])
    if word == "release":
        return without_lock(held, statement[1])
    if word == "rest" and held:
        raise BadProgram("a thread rests while it holds a lock")
    ends = [locks_after_body(body, held, found) for body in bodies_of(statement)]
    if word == "loop" or not ends:
        # A loop can be left without its body, which must therefore change nothing.
        ends.append(held)
    for end in ends:
        if end != ends[0]:
            raise BadProgram("the locks held depend on the way a thread takes")
    return ends[0]


def with_lock(held, lock):
    """Return the locks held after a lock is taken."""
    if lock in held:
        raise BadProgram("a lock is taken by a thread that holds it")
    return sorted([*held, lock])


def without_lock(held, lock):
    """Return the locks held after a lock is given back."""
    if lock not in held:
        raise BadProgram("a lock is given back by a thread that does not hold it")
    return [name for name in held if name != lock]
