"""The desk: commands about a program, and their answers."""

from legion.ahead import explore
from legion.answer import decide
from legion.errors import BadCommand, NotPossible, OutOfRange
from legion.machine import compile_program
from legion.program import fresh_copy
from legion.questions import (
    broken_situations,
    knot_situations,
    mark_situations,
    race_situations,
)
from legion.runs import scheduled, start_with
from legion.tale import tale_of

# How many words a command has, by its first one; run has at least so many.
WORDS = {
    "size": 1, "broken": 1, "marks": 3, "race": 2, "knots": 1, "tale": 1, "run": 2, "cover": 1,
}
DIGITS = "0123456789"
MOST_DIGITS = 6
MOST_CREW = 99
FUEL_OF_QUESTIONS = 60
FUEL_OF_COVER = 300


class Desk:
    """Answers commands about one program."""

    def __init__(self, program):
        self.machine = compile_program(program)
        self.program = fresh_copy(program)
        # Those of the latest question that was answered with "possible".
        self.crew = 0
        self.run = []

    def ask(self, command):
        """Return the answer to a command. Raise BadCommand if it has a wrong form."""
        words = command.split(" ")
        check_words(words)
        word = words[0]
        if word == "size":
            states, places, _, _, moves = self.machine
            return f"{states} states, {places} places, {len(moves)} moves"
        if word == "tale":
            return self.told(self.crew, self.run)
        if word == "run":
            return self.told_schedule([number_of(number) for number in words[1:]])
        if word == "cover":
            return self.told_cover()
        return self.decided(self.bad_situations(words))

    def bad_situations(self, words):
        """Return the bad situations of the question that a command asks."""
        try:
            if words[0] == "broken":
                return broken_situations(self.program)
            if words[0] == "knots":
                return knot_situations(self.program)
            if words[0] == "race":
                return race_situations(self.program, words[1])
            return mark_situations(self.program, words[1], words[2])
        except OutOfRange:
            raise BadCommand("a command names what is not in the program") from None

    def decided(self, bad):
        """Return the answer to a question; keep its run if there is one."""
        answer = decide(self.machine, bad, fuel=FUEL_OF_QUESTIONS)
        if answer[0] == "unknown":
            return "unknown"
        if answer[0] == "never":
            return f"never {len(answer[1])}"
        _, self.crew, self.run, basis = answer
        return f"possible {self.crew} {len(self.run)} {len(basis)}"

    def told(self, crew, run):
        """Return the tale of a run from the start, as one text."""
        tale = tale_of(self.program, self.machine, crew, run)
        return "; ".join(tale) if tale else "none"

    def told_schedule(self, numbers):
        """Return the tale of the run that is given by the crew and a schedule."""
        crew = numbers[0]
        if crew > MOST_CREW:
            raise BadCommand("a run has too many crew threads")
        run = scheduled(self.machine, start_with(self.machine, crew), numbers[1:])
        return self.told(crew, run)

    def told_cover(self):
        """Return the number of the elements of the cover, as a text."""
        try:
            cover = explore(self.machine, fuel=FUEL_OF_COVER)
        except NotPossible:
            return "wakes"
        return "unknown" if cover is None else str(len(cover))


def check_words(words):
    """Raise BadCommand if a word is empty, the first one is unknown, or their number is wrong."""
    if "" in words or words[0] not in WORDS:
        raise BadCommand("a command has an empty or an unknown word")
    wanted = WORDS[words[0]]
    if len(words) < wanted or len(words) > wanted and words[0] != "run":
        raise BadCommand("a command has a wrong number of words")


def number_of(word):
    """Return the number that a word is."""
    fits = len(word) <= MOST_DIGITS and all([sign in DIGITS for sign in word])
    if not fits or word[0] == "0" and word != "0":
        raise BadCommand("a number has a wrong form")
    return int(word)
