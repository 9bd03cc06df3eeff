"""The written form of programs: writing it and reading it."""

from legion.errors import BadText
from legion.program import FORMS, MOST_CHARACTERS, MOST_DEPTH, check_program
from legion.written import program_lines

MOST_DIGITS = 2


def format_program(program):
    """Return the written form of a valid program."""
    return "".join([line + "\n" for line in program_lines(program)])


def parse_program(text):
    """Return the valid program whose written form the text is.

    Raise BadText or BadProgram if there is none.
    """
    check_text(text)
    program = Reader(text.split()).read_program()
    check_program(program)
    # The reader goes by the words alone: only this tells whether the spaces,
    # the ends of the lines and the digits are those of the written form, too.
    if format_program(program) != text:
        raise BadText("the text is not as the program is written")
    return program


def check_text(text):
    """Raise BadText if a text is too long or has a wrong character."""
    if len(text) > MOST_CHARACTERS:
        raise BadText("the text is too long")
    for sign in text:
        if sign != "\n" and not " " <= sign <= "~":
            raise BadText("the text has a wrong character")


def number_of(word):
    """Return the integer that a word is."""
    digits = word.removeprefix("-")
    if not digits.isdigit() or len(digits) > MOST_DIGITS:
        raise BadText("a number has a wrong form")
    return int(word)


def truth_of(word):
    """Return the condition that a single word is."""
    if word != "true" and word != "false":
        raise BadText("a condition begins with a wrong word")
    return word == "true"


class Reader:
    """Reads a program from its words, whatever stands between them.

    It is more generous than the document: what it returns has yet to be checked.
    """

    def __init__(self, words):
        self.words = words
        self.at = 0

    def peek(self):
        """Return the next word, or an empty text behind the last one."""
        return self.words[self.at] if self.at < len(self.words) else ""

    def take(self):
        """Return the next word and go on behind it."""
        word = self.peek()
        if word == "":
            raise BadText("the text ends too early")
        self.at += 1
        return word

    def skip(self, wanted):
        """Go on behind the next word, which must be the wanted one."""
        if self.take() != wanted:
            raise BadText("a word is not the one that must follow")

    def read_program(self):
        """Read all words as a program."""
        shares = self.read_variables("share")
        locks = self.read_names("lock")
        bells = self.read_names("bell")
        kinds = []
        while self.peek() != "":
            kinds.append(self.read_kind())
        return (shares, locks, bells, kinds)

    def read_variables(self, word):
        """Read the variables that are declared next with the given word."""
        variables = []
        while self.peek() == word:
            self.skip(word)
            name = self.take()
            numbers = [number_of(self.take()) for _ in range(3)]
            variables.append((name, *numbers))
        return variables

    def read_names(self, word):
        """Read the names that are declared next with the given word."""
        names = []
        while self.peek() == word:
            self.skip(word)
            names.append(self.take())
        return names

    def read_kind(self):
        """Read a kind."""
        self.skip("kind")
        name = self.take()
        many = self.take()
        count = None if many == "any" else number_of(many)
        variables = self.read_variables("local")
        body = self.read_body(MOST_DEPTH)
        self.skip("end")
        return (name, count, variables, body)

    def read_body(self, depth):
        """Read a body whose statements may be nested so deep, up to the word behind it."""
        body = []
        while ("statement", self.peek()) in FORMS:
            # Without this the depth of the recursion would depend on the text.
            if depth == 0:
                raise BadText("statements are nested too deep")
            body.append(self.read_statement(depth))
        return body

    def read_statement(self, depth):
        """Read a statement that may be nested so deep."""
        word = self.take()
        if word == "choose":
            return (word, self.read_bodies(depth - 1, "or"))
        parts = [
            self.read_part(sort, MOST_DEPTH)
            for sort in FORMS[("statement", word)]
            if sort != "body"
        ]
        if word == "if" or word == "loop":
            parts.extend(self.read_bodies(depth - 1, "else"))
        return (word, *parts)

    def read_bodies(self, depth, between):
        """Read the bodies of a statement, with the given word between them, and its end."""
        bodies = [self.read_body(depth)]
        while self.peek() == between:
            self.skip(between)
            bodies.append(self.read_body(depth))
        self.skip("end")
        return bodies

    def read_part(self, sort, depth):
        """Read a value or a condition that may be nested so deep, or a name."""
        if depth == 0:
            raise BadText("values or conditions are nested too deep")
        word = self.take()
        if (sort, word) in FORMS:
            return (word, *[self.read_part(inner, depth - 1) for inner in FORMS[(sort, word)]])
        if sort == "condition":
            return truth_of(word)
        if sort == "value" and word[0] in "-0123456789":
            return number_of(word)
        return word
