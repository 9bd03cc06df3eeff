"""Programs and machines that are made by rolling numbers, always the same ones."""

from legion.errors import BadProgram
from legion.program import check_program

SHARES = [("x", 0, 2, 1), ("y2", -1, 0, 0)]
LOCKS = ["m9", "l"]
BELLS = ["b", "a1"]
KINDS = ["k0", "c", "d"]
LOCALS = [("v1", -2, -1, -1), ("w", 5, 6, 5)]


class Roller:
    """Rolls numbers from a seed."""

    def __init__(self, seed):
        self.seed = seed

    def roll(self, size):
        """A number from 0 to size - 1."""
        self.seed = (self.seed * 6364136223846793005 + 1442695040888963407) % 2 ** 64
        return (self.seed >> 33) % size

    def pick(self, things):
        """One of several things."""
        return things[self.roll(len(things))]


class ProgramMaker(Roller):
    """Makes one valid program."""

    def made(self):
        """A valid program."""
        while True:
            program = self.tried()
            try:
                check_program(program)
                return program
            except BadProgram:
                pass

    def tried(self):
        """A program that uses its locks properly, but may be too large."""
        self.shares = SHARES[: self.roll(3)]
        self.locks = LOCKS[: self.roll(3)]
        self.bells = BELLS[: self.roll(3)]
        many = 1 + self.roll(3)
        crew = self.roll(many)
        self.kinds = KINDS[:many]
        kinds = []
        for at, name in enumerate(self.kinds):
            self.locals = LOCALS[: self.roll(3)]
            count = None if at == crew else self.roll(3)
            kinds.append((name, count, list(self.locals), self.body(3, [])))
        return (list(self.shares), list(self.locks), list(self.bells), kinds)

    def body(self, depth, held):
        """A body that ends with the locks with which it begins."""
        body = []
        for _ in range(self.roll(4)):
            body.extend(self.part(depth, held))
        return body

    def part(self, depth, held):
        """A few statements that end with the locks with which they begin."""
        free = [lock for lock in self.locks if lock not in held]
        if free and self.roll(4) == 0:
            lock = self.pick(free)
            inner = self.body(depth, held + [lock])
            return [("acquire", lock)] + inner + [("release", lock)]
        if depth > 1 and self.roll(3) == 0:
            return [self.nested(depth - 1, held)]
        if self.bells and not held and self.roll(3) == 0:
            return [("rest", self.pick(self.bells))]
        return [self.plain()]

    def nested(self, depth, held):
        """A statement with bodies."""
        word = self.pick(["if", "loop", "choose"])
        if word == "if":
            return ("if", self.condition(2), self.body(depth, held), self.body(depth, held))
        if word == "loop":
            return ("loop", self.condition(2), self.body(depth, held))
        return ("choose", [self.body(depth, held) for _ in range(1 + self.roll(3))])

    def plain(self):
        """A statement without bodies that needs no locks."""
        variables = self.shares + self.locals
        makers = [
            lambda: ("skip",),
            lambda: ("start", self.pick(self.kinds)),
            lambda: ("check", self.condition(2)),
            lambda: ("await", self.condition(2)),
            lambda: ("mark", self.pick(["here", "x", "there"])),
        ]
        if variables:
            makers += [lambda: ("set", self.pick(variables)[0], self.value(2))] * 4
        if self.bells:
            makers += [lambda: ("wake", self.pick(self.bells))] * 2
        return self.pick(makers)()

    def value(self, depth):
        """A value."""
        variables = self.shares + self.locals
        if depth > 0 and self.roll(2) == 0:
            return (self.pick("+-*"), self.value(depth - 1), self.value(depth - 1))
        if variables and self.roll(3) > 0:
            return self.pick(variables)[0]
        return self.pick([0, 1, -1, 2, 99, -99])

    def condition(self, depth):
        """A condition."""
        if self.roll(6) == 0:
            return self.pick([True, False])
        if depth > 0 and self.roll(3) == 0:
            if self.roll(3) == 0:
                return ("not", self.condition(depth - 1))
            return (self.pick(["and", "or"]), self.condition(depth - 1), self.condition(depth - 1))
        return (self.pick(["=", "<", "<="]), self.value(1), self.value(1))


class LockMaker(ProgramMaker):
    """Makes one valid program whose threads do little but take locks, several at once."""

    def tried(self):
        """A program that uses its locks properly, but may be too large."""
        self.shares = SHARES[: self.roll(2)]
        self.locks = ["d", "b", "c", "a"][: 2 + self.roll(3)]
        self.bells, self.locals = [], []
        many = 1 + self.roll(2)
        crew = self.roll(many)
        self.kinds = KINDS[:many]
        kinds = []
        for at, name in enumerate(self.kinds):
            count = None if at == crew else self.roll(3)
            parts = [self.locking() for _ in range(1 + self.roll(3))]
            body = [statement for part in parts for statement in part]
            kinds.append((name, count, [], body))
        return (list(self.shares), list(self.locks), [], kinds)

    def locking(self):
        """Statements that take a few locks one within another."""
        taken = []
        for _ in range(2 + self.roll(2)):
            lock = self.pick(self.locks)
            if lock not in taken:
                taken.append(lock)
        inner = [self.plain()] if self.roll(3) == 0 else []
        part = [("acquire", lock) for lock in taken] + inner
        part += [("release", lock) for lock in reversed(taken)]
        return [("choose", [part, []])] if self.roll(4) == 0 else part


def programs(many, seed=1):
    """So many valid programs."""
    return [ProgramMaker(seed * 1000003 + at).made() for at in range(many)]


class MachineMaker(Roller):
    """Makes one valid machine that need not come from a program."""

    def made(self):
        """A valid machine."""
        states = 1 + self.roll(3)
        places = 1 + self.roll(5)
        moves = []
        for _ in range(self.roll(12)):
            move = self.move(states, places)
            if move not in moves:
                moves.append(move)
        start = (self.roll(states), [self.roll(3) for _ in range(places)])
        return (states, places, start, self.roll(places), moves)

    def move(self, states, places):
        """A move."""
        started = self.roll(places) if self.roll(3) == 0 else None
        shifts = []
        if self.roll(3) == 0:
            roles = [self.roll(3) for _ in range(places)]
            seconds = [place for place in range(places) if roles[place] == 0]
            for place in range(places):
                if seconds and roles[place] == 1:
                    shifts.append((place, self.pick(seconds)))
        return (self.roll(states), self.roll(places), self.roll(states), self.roll(places),
                started, shifts)

    def situation(self, machine, most=3):
        """A situation of a machine, with few threads."""
        counts = [self.roll(most) for _ in range(machine[1])]
        return (self.roll(machine[0]), counts)


def machines(many, seed=1):
    """So many pairs of a valid machine and the roller that made it."""
    makers = [MachineMaker(seed * 1000003 + at) for at in range(many)]
    return [(maker.made(), maker) for maker in makers]
