"""Programs: which ones are valid, and what their values and conditions are worth."""

from legion.errors import BadProgram
from legion.flow import held_at, points_of
from legion.written import program_lines

LETTERS = "abcdefghijklmnopqrstuvwxyz"
LETTERS_AND_DIGITS = "abcdefghijklmnopqrstuvwxyz0123456789"
RESERVED = (
    "share", "lock", "bell", "kind", "any", "local", "skip", "set", "acquire",
    "release", "rest", "wake", "start", "check", "await", "mark", "if", "else",
    "loop", "choose", "or", "end", "and", "not",
)

LONGEST_NAME = 20
GREATEST_NUMBER = 99
GREATEST_COUNT = 9
MOST_DEPTH = 10
MOST_STATES = 64
MOST_PLACES = 96
MOST_LOCKS = 6
MOST_CHARACTERS = 20000

# What follows the word or the sign of a tuple, by the sort of the tuple.
FORMS = {
    ("value", "+"): ("value", "value"),
    ("value", "-"): ("value", "value"),
    ("value", "*"): ("value", "value"),
    ("condition", "not"): ("condition",),
    ("condition", "and"): ("condition", "condition"),
    ("condition", "or"): ("condition", "condition"),
    ("condition", "="): ("value", "value"),
    ("condition", "<"): ("value", "value"),
    ("condition", "<="): ("value", "value"),
    ("statement", "skip"): (),
    ("statement", "set"): ("variable", "value"),
    ("statement", "acquire"): ("lock",),
    ("statement", "release"): ("lock",),
    ("statement", "rest"): ("bell",),
    ("statement", "wake"): ("bell",),
    ("statement", "start"): ("kind",),
    ("statement", "check"): ("condition",),
    ("statement", "await"): ("condition",),
    ("statement", "mark"): ("mark",),
    ("statement", "if"): ("condition", "body", "body"),
    ("statement", "loop"): ("condition", "body"),
    ("statement", "choose"): ("bodies",),
}


def check_program(program):
    """Raise BadProgram if the program is not valid."""
    require(isinstance(program, tuple) and len(program) == 4, "a program is a tuple of four items")
    checker = Checker()
    checker.check_names(program)
    for kind in program[3]:
        checker.check_kind(kind)
    check_size(program)
    for kind in program[3]:
        held_at(kind)


def value_of(value, values):
    """Return the integer that a value has."""
    if isinstance(value, int):
        return value
    if isinstance(value, str):
        return values[value]
    sign, first, second = value
    left = value_of(first, values)
    right = value_of(second, values)
    if sign == "+":
        return left + right
    if sign == "-":
        return left - right
    return left * right


def holds(condition, values):
    """Return True if a condition holds, otherwise False."""
    if condition is True or condition is False:
        return condition
    sign = condition[0]
    if sign == "not":
        return not holds(condition[1], values)
    if sign == "and":
        return holds(condition[1], values) and holds(condition[2], values)
    if sign == "or":
        return holds(condition[1], values) or holds(condition[2], values)
    left = value_of(condition[1], values)
    right = value_of(condition[2], values)
    if sign == "=":
        return left == right
    if sign == "<":
        return left < right
    return left <= right


def fitted(variable, number):
    """Return the value that setting a variable to a number gives it."""
    least = variable[1]
    return least + (number - least) % number_of_values(variable)


def crew_kind(program):
    """Return the index of the kind of which there may be any number of threads."""
    return [kind[1] for kind in program[3]].index(None)


def fresh_copy(part):
    """Return a copy of a valid program, or of a part of one, with lists of its own."""
    if isinstance(part, list):
        return [fresh_copy(inner) for inner in part]
    if isinstance(part, tuple):
        return tuple([fresh_copy(inner) for inner in part])
    return part


def number_of_values(variable):
    """Return the number of the values that a variable can have."""
    return variable[2] - variable[1] + 1


def combinations_of(variables):
    """Return in how many ways variables can have their values."""
    ways = 1
    for variable in variables:
        ways = ways * number_of_values(variable)
    return ways


def check_size(program):
    """Raise BadProgram if a program of the right form is not small."""
    shares, locks, bells, kinds = program
    require(len(locks) <= MOST_LOCKS, "there are too many locks")
    states = combinations_of(shares) * (1 << len(locks))
    require(states <= MOST_STATES, "there are too many shared states")
    places = sum([points_of(kind)[0] * combinations_of(kind[2]) for kind in kinds])
    require(places <= MOST_PLACES, "there are too many places")
    characters = sum([len(line) + 1 for line in program_lines(program)])
    require(characters <= MOST_CHARACTERS, "the written form is too long")


def require(wanted, text):
    """Raise BadProgram with the text if what is wanted is not so."""
    if not wanted:
        raise BadProgram(text)


def is_name(thing):
    """Return True if anything is a name."""
    if not isinstance(thing, str) or not 1 <= len(thing) <= LONGEST_NAME:
        return False
    if thing in RESERVED or thing[0] not in LETTERS:
        return False
    return all([sign in LETTERS_AND_DIGITS for sign in thing])


def is_number(thing, least, greatest):
    """Return True if anything is an integer from least to greatest."""
    if isinstance(thing, bool) or not isinstance(thing, int):
        return False
    return least <= thing <= greatest


def is_small_number(thing):
    """Return True if anything is an integer that may be written in a program."""
    return is_number(thing, -GREATEST_NUMBER, GREATEST_NUMBER)


def parts_of(sort, whole):
    """Return pairs (sort, part) of what follows the word of a tuple of the given sort."""
    require(isinstance(whole, tuple) and len(whole) > 0, "a tuple is expected")
    word = whole[0]
    require(isinstance(word, str) and (sort, word) in FORMS, "a tuple begins with a wrong word")
    sorts = FORMS[(sort, word)]
    require(len(whole) == len(sorts) + 1, "a tuple has a wrong number of items")
    return list(zip(sorts, whole[1:]))


class Checker:
    """Checks the form of one program, and that its names are described."""

    def __init__(self):
        self.names = {}
        self.room = MOST_CHARACTERS

    def spend(self):
        """Count a part of the program.

        Each counted part has a character of its own in the written form, so a
        program with too many of them is not valid. Without this count the work
        could be endless: a list may occur at many places, and even in itself.
        """
        self.room -= 1
        require(self.room >= 0, "the written form is too long")

    def check_names(self, program):
        """Check what a program declares, except for the insides of its kinds."""
        shares, locks, bells, kinds = program
        self.declare_variables(shares)
        self.declare_plain(locks, "lock")
        self.declare_plain(bells, "bell")
        require(isinstance(kinds, list), "the kinds are a list")
        for kind in kinds:
            self.declare_kind(kind)
        crews = [kind for kind in kinds if kind[1] is None]
        require(len(crews) == 1, "exactly one kind is the crew")

    def declare(self, name, sort):
        """Check a name, and keep what it is a name of."""
        self.spend()
        require(is_name(name), "a name has a wrong form")
        require(name not in self.names, "a name is used twice")
        self.names[name] = sort

    def declare_plain(self, names, sort):
        """Check a list of names of locks or bells."""
        require(isinstance(names, list), "the locks and the bells are lists")
        for name in names:
            self.declare(name, sort)

    def declare_variables(self, variables):
        """Check a list of shares or locals."""
        require(isinstance(variables, list), "variables are a list")
        for variable in variables:
            fits = isinstance(variable, tuple) and len(variable) == 4
            require(fits, "a variable is a tuple of four items")
            self.declare(variable[0], "variable")
            name, least, greatest, first = variable
            for number in (least, greatest, first):
                require(is_small_number(number), f"{name} has a wrong number")
            require(least <= first <= greatest, f"{name} has a wrong range")

    def declare_kind(self, kind):
        """Check a kind, except for its locals and its body."""
        require(isinstance(kind, tuple) and len(kind) == 4, "a kind is a tuple of four items")
        self.declare(kind[0], "kind")
        count = kind[1]
        fits = count is None or is_number(count, 0, GREATEST_COUNT)
        require(fits, "a kind has a wrong number of threads")

    def check_kind(self, kind):
        """Check the locals and the body of a kind."""
        variables = kind[2]
        self.declare_variables(variables)
        self.check_body(kind[3], MOST_DEPTH)
        for variable in variables:
            del self.names[variable[0]]

    def check_body(self, body, depth):
        """Check a body whose statements may be nested so deep."""
        self.spend()
        require(isinstance(body, list), "a body is a list")
        for statement in body:
            self.check_statement(statement, depth)

    def check_statement(self, statement, depth):
        """Check a statement that may be nested so deep."""
        self.spend()
        require(depth > 0, "statements are nested too deep")
        for sort, part in parts_of("statement", statement):
            if sort == "body":
                self.check_body(part, depth - 1)
            elif sort == "bodies":
                self.check_bodies(part, depth - 1)
            else:
                self.check_part(sort, part)

    def check_bodies(self, bodies, depth):
        """Check the bodies of a choose."""
        require(isinstance(bodies, list) and len(bodies) > 0, "a choose has a list of bodies")
        for body in bodies:
            self.check_body(body, depth)

    def check_part(self, sort, part):
        """Check a part of a statement that is no body."""
        if sort == "value":
            self.check_value(part, MOST_DEPTH)
        elif sort == "condition":
            self.check_condition(part, MOST_DEPTH)
        elif sort == "mark":
            require(is_name(part), "the name of a mark has a wrong form")
        else:
            self.check_reference(sort, part)

    def check_value(self, value, depth):
        """Check a value that may be nested so deep."""
        self.spend()
        require(depth > 0, "values are nested too deep")
        if isinstance(value, str):
            self.check_reference("variable", value)
        elif isinstance(value, tuple):
            for _, part in parts_of("value", value):
                self.check_value(part, depth - 1)
        else:
            require(is_small_number(value), "a value has a wrong form")

    def check_condition(self, condition, depth):
        """Check a condition that may be nested so deep."""
        self.spend()
        require(depth > 0, "conditions are nested too deep")
        if condition is True or condition is False:
            return
        for sort, part in parts_of("condition", condition):
            if sort == "value":
                self.check_value(part, depth - 1)
            else:
                self.check_condition(part, depth - 1)

    def check_reference(self, sort, name):
        """Check that a name is described, as one of the given sort."""
        known = isinstance(name, str) and self.names.get(name) == sort
        require(known, "a name does not refer to what is needed")
