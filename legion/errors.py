"""The exceptions of the program."""


class LegionError(ValueError):
    """The base class of all exceptions that the program raises."""


class BadText(LegionError):
    """A text is not the written form of a program."""


class BadProgram(LegionError):
    """A program is not valid."""


class BadMachine(LegionError):
    """A machine is not valid."""


class OutOfRange(LegionError):
    """A number or a name is not one of those that there are."""


class NotPossible(LegionError):
    """A move or a search is asked for where it is not possible."""


class BadCommand(LegionError):
    """A desk does not know what a command asks for."""
