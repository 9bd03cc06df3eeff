"""The written form of programs, and the bodies of which statements consist.

Everything here takes parts of programs whose form has been checked.
"""


def bodies_of(statement):
    """Return the list of the bodies of a statement, in order."""
    word = statement[0]
    if word == "if":
        return [statement[2], statement[3]]
    if word == "loop":
        return [statement[2]]
    if word == "choose":
        return list(statement[1])
    return []


def phrase_of(part):
    """Return the words of a value, a condition, a name or a tuple of these."""
    if part is True:
        return "true"
    if part is False:
        return "false"
    if isinstance(part, tuple):
        return " ".join([phrase_of(inner) for inner in part])
    return str(part)


def line_of(statement):
    """Return the line of a statement, without its bodies and without indentation."""
    word = statement[0]
    if word == "choose":
        return word
    if word == "if" or word == "loop":
        return phrase_of((word, statement[1]))
    return phrase_of(statement)


def indented(lines):
    """Return the lines one level deeper."""
    return ["  " + line for line in lines]


def statement_lines(statement):
    """Return the lines of a statement with its bodies."""
    lines = [line_of(statement)]
    bodies = bodies_of(statement)
    if not bodies:
        return lines
    between = "else" if statement[0] == "if" else "or"
    for at, body in enumerate(bodies):
        if at > 0:
            lines.append(between)
        lines.extend(indented(body_lines(body)))
    lines.append("end")
    return lines


def body_lines(body):
    """Return the lines of a body."""
    lines = []
    for statement in body:
        lines.extend(statement_lines(statement))
    return lines


def variable_lines(word, variables):
    """Return a line for each variable: the word, the name and the numbers."""
    return [word + " " + phrase_of(variable) for variable in variables]


def kind_lines(kind):
    """Return the lines of a kind."""
    name, count, variables, body = kind
    many = "any" if count is None else str(count)
    inner = variable_lines("local", variables) + body_lines(body)
    return [f"kind {name} {many}"] + indented(inner) + ["end"]


def program_lines(program):
    """Return the lines of a program, without the newlines at their ends."""
    shares, locks, bells, kinds = program
    lines = variable_lines("share", shares)
    lines.extend(["lock " + name for name in locks])
    lines.extend(["bell " + name for name in bells])
    for kind in kinds:
        lines.extend(kind_lines(kind))
    return lines
