"""Machines: the numbers of shared states and places, and the moves between them."""

from legion.errors import BadMachine, OutOfRange
from legion.flow import points_of, steps_of
from legion.program import (
    MOST_PLACES,
    MOST_STATES,
    check_program,
    combinations_of,
    crew_kind,
    fitted,
    holds,
    is_number,
    number_of_values,
    value_of,
)


class Layout:
    """The numbering of the shared states and the places of a valid program."""

    def __init__(self, program):
        shares, locks, _, kinds = program
        self.shares = list(shares)
        self.locks = list(locks)
        self.states = combinations_of(shares) * (1 << len(locks))
        # For each kind: its first place, and its locals.
        self.kinds = []
        self.places = 0
        for kind in kinds:
            self.kinds.append((self.places, list(kind[2])))
            self.places += points_of(kind)[0] * combinations_of(kind[2])

    def state_number(self, values, held):
        """Return the number of a shared state."""
        number = rank_of(self.shares, values)
        for lock in self.locks:
            number = number * 2 + int(lock in held)
        return number

    def state_values(self, number):
        """Return the tuple (values, held) of a shared state."""
        if not 0 <= number < self.states:
            raise OutOfRange("there is no such shared state")
        held = []
        rank = number
        for lock in reversed(self.locks):
            if rank % 2 == 1:
                held.append(lock)
            rank = rank // 2
        held.reverse()
        return (values_at(self.shares, rank), held)

    def place_number(self, kind, point, values):
        """Return the number of a place."""
        first, variables = self.kinds[kind]
        return first + point * combinations_of(variables) + rank_of(variables, values)

    def place_values(self, number):
        """Return the tuple (kind, point, values) of a place."""
        if not 0 <= number < self.places:
            raise OutOfRange("there is no such place")
        kind = max([at for at, row in enumerate(self.kinds) if row[0] <= number])
        first, variables = self.kinds[kind]
        point, rank = divmod(number - first, combinations_of(variables))
        return (kind, point, values_at(variables, rank))


def rank_of(variables, values):
    """Return the number of the given values among all values that variables can have."""
    rank = 0
    for variable in variables:
        rank = rank * number_of_values(variable) + values[variable[0]] - variable[1]
    return rank


def values_at(variables, rank):
    """Return the dict of the values that have the given number."""
    numbers = []
    rest = rank
    for variable in reversed(variables):
        rest, above_least = divmod(rest, number_of_values(variable))
        numbers.append(variable[1] + above_least)
    numbers.reverse()
    return {variable[0]: number for variable, number in zip(variables, numbers)}


def first_values(variables):
    """Return the dict of the values that variables have at the start."""
    return {variable[0]: variable[3] for variable in variables}


def compile_program(program):
    """Return the machine of a program. Raise BadProgram if the program is not valid."""
    check_program(program)
    shares, _, _, kinds = program
    compiler = Compiler(program)
    layout = compiler.layout
    counts = [0] * layout.places
    for kind in kinds:
        if kind[1] is not None:
            counts[compiler.entries[kind[0]]] = kind[1]
    start = (layout.state_number(first_values(shares), []), counts)
    crew = compiler.entries[kinds[crew_kind(program)][0]]
    return (layout.states, layout.places, start, crew, compiler.all_moves())


class Compiler:
    """Makes the moves of one valid program."""

    def __init__(self, program):
        shares, _, _, kinds = program
        self.layout = Layout(program)
        self.variables = [
            {variable[0]: variable for variable in shares + kind[2]} for kind in kinds
        ]
        self.steps = [steps_by_point(kind) for kind in kinds]
        self.entries = {
            kind[0]: self.layout.place_number(at, 0, first_values(kind[2]))
            for at, kind in enumerate(kinds)
        }
        self.shifts = shifts_by_bell(self.layout, program)

    def all_moves(self):
        """Return the list of the moves."""
        spots = [self.layout.place_values(place) for place in range(self.layout.places)]
        moves = []
        for state in range(self.layout.states):
            values, held = self.layout.state_values(state)
            for place, (kind, point, own) in enumerate(spots):
                known = {**values, **own}
                for _, action, target in self.steps[kind][point]:
                    if is_ready(action, known, held):
                        ends = self.ends_of(action, known, held, kind, target)
                        moves.append((state, place, *ends))
        return moves

    def ends_of(self, action, known, held, kind, target):
        """Return the list of the items of a move behind its state and its place."""
        word = action[0]
        values = known
        if word == "set":
            number = value_of(action[2], known)
            values = {**known, action[1]: fitted(self.variables[kind][action[1]], number)}
        return [
            self.layout.state_number(values, held_behind(action, held)),
            self.layout.place_number(kind, target, values),
            self.entries[action[1]] if word == "start" else None,
            list(self.shifts[action[1]]) if word == "wake" else [],
        ]


def steps_by_point(kind):
    """Return for each point of a kind the list of its steps, each once.

    Steps at one point lead to equal moves only if they are equal themselves:
    of two branches only one is open, and other steps differ by their targets.
    """
    table = [[] for _ in range(points_of(kind)[0])]
    for step in steps_of(kind):
        if step not in table[step[0]]:
            table[step[0]].append(step)
    return table


def shifts_by_bell(layout, program):
    """Return for each bell the list of the pairs of places that it shifts, ascending."""
    pairs = {bell: [] for bell in program[2]}
    for at, kind in enumerate(program[3]):
        for bell, resting, follower in points_of(kind)[3]:
            for rank in range(combinations_of(kind[2])):
                values = values_at(kind[2], rank)
                place = layout.place_number(at, resting, values)
                pairs[bell].append((place, layout.place_number(at, follower, values)))
    return pairs


def is_ready(action, values, held):
    """Return True if a step with this action is possible."""
    if action[0] == "when":
        return holds(action[1], values)
    return action[0] != "acquire" or action[1] not in held


def held_behind(action, held):
    """Return the locks that are held after an action."""
    if action[0] == "acquire":
        return [*held, action[1]]
    if action[0] == "release":
        return [lock for lock in held if lock != action[1]]
    return held


def check_machine(machine):
    """Raise BadMachine if a machine is not valid."""
    demand(is_tuple(machine, 5), "a machine is a tuple of five items")
    states, places, start, crew, moves = machine
    demand(is_number(states, 1, MOST_STATES), "the number of shared states is wrong")
    demand(is_number(places, 1, MOST_PLACES), "the number of places is wrong")
    check_start(start, states, places)
    demand(is_index(crew, places), "there is no such place for the crew")
    demand(isinstance(moves, list), "the moves are a list")
    seen = set()
    for move in moves:
        check_move(move, states, places)
        key = move[:5] + (tuple(move[5]),)
        demand(key not in seen, "two moves are equal")
        seen.add(key)


def check_start(start, states, places):
    """Check the start of a machine."""
    demand(is_tuple(start, 2), "the start is a tuple of two items")
    state, counts = start
    demand(is_index(state, states), "there is no such shared state at the start")
    fits = isinstance(counts, list) and len(counts) == places
    demand(fits, "the start has not one count for each place")
    for count in counts:
        demand(is_count(count), "a count of the start is wrong")


def check_move(move, states, places):
    """Check a move of a machine."""
    demand(is_tuple(move, 6), "a move is a tuple of six items")
    state, place, next_state, next_place, started, shifts = move
    for number in (state, next_state):
        demand(is_index(number, states), "there is no such shared state in a move")
    for number in (place, next_place):
        demand(is_index(number, places), "there is no such place in a move")
    demand(started is None or is_index(started, places), "no thread can be started there")
    demand(isinstance(shifts, list), "the shifts are a list")
    check_shifts(shifts, places)


def check_shifts(shifts, places):
    """Check the shifts of a move."""
    last = -1
    for pair in shifts:
        demand(is_tuple(pair, 2), "a shift is a pair")
        first, second = pair
        fits = is_index(first, places) and is_index(second, places)
        demand(fits, "there is no such place in a shift")
        demand(first > last, "the shifts are not in ascending order")
        last = first
    firsts = {pair[0]: True for pair in shifts}
    for pair in shifts:
        demand(pair[1] not in firsts, "a shift leads to a place that shifts itself")


def demand(wanted, text):
    """Raise BadMachine with the text if what is wanted is not so."""
    if not wanted:
        raise BadMachine(text)


def is_tuple(thing, size):
    """Return True if anything is a tuple with so many items."""
    return isinstance(thing, tuple) and len(thing) == size


def is_count(thing):
    """Return True if anything is an integer that is at least 0."""
    return isinstance(thing, int) and not isinstance(thing, bool) and thing >= 0


def is_index(thing, size):
    """Return True if anything is an index of one of so many things."""
    return is_number(thing, 0, size - 1)
