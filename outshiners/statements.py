"""Statements of errands, their rules and their text (points 38 to 40)."""
from outshiners.faults import BadErrand, BadText
from outshiners.names import is_name
from outshiners.spans import is_number, number_text
from outshiners.texts import read_number

MOST_STATEMENTS = 16
MOST_DEPTH = 3
MOST_OF_EACH = 4
# What stands for the current lamp of the innermost `each` around it.
CURRENT = "*"
INDENT = "  "


def check_errand(statements):
    """The tuple of the statements; raise BadErrand for the first one that no errand can have."""
    for at, (place, in_each, statement) in enumerate(statement_rows(statements, (), False)):
        if at == MOST_STATEMENTS or len(place) > MOST_DEPTH or not is_right(statement, in_each):
            raise BadErrand(place)
    return tuple(statements)


def statement_rows(body, around, in_each):
    """The list of (place, whether an `each` is around it, statement) in reading order.

    What stands in a wrong statement is left out, as the wrong one is told ahead of it.
    """
    rows = []
    for at, statement in enumerate(body):
        place = (*around, at)
        rows.append((place, in_each, statement))
        if is_right(statement, in_each):
            rows.extend(statement_rows(body_of(statement), place, in_each or statement[0] == "each"))
    return rows


def body_of(statement):
    """The body of a right statement; the empty one if it has none."""
    return statement[-1] if statement[0] in ("until", "each") else ()


def is_right(statement, in_each):
    """True if the statement keeps the rules by its own parts, otherwise False."""
    word = statement[0] if len(statement) > 0 else ""
    parts = statement[1:]
    if word in ("light", "offer"):
        return len(parts) == 2 and all([is_lamp(lamp, in_each) for lamp in parts]) and parts[0] != parts[1]
    if word == "spread":
        return len(parts) == 1 and is_number(parts[0])
    if word == "until":
        return len(parts) == 3 and is_lamp(parts[0], in_each) and is_number(parts[1]) and isinstance(parts[2], tuple)
    return word == "each" and len(parts) == 2 and are_lamps(parts[0]) and isinstance(parts[1], tuple)


def is_lamp(name, in_each):
    """True if this may stand for a lamp there, otherwise False."""
    return isinstance(name, str) and (is_name(name) or (in_each and name == CURRENT))


def are_lamps(lamps):
    """True if these may be the lamps of an `each`, otherwise False."""
    if not isinstance(lamps, tuple) or len(lamps) < 1 or len(lamps) > MOST_OF_EACH:
        return False
    return all([is_lamp(lamp, False) for lamp in lamps]) and len(set(lamps)) == len(lamps)


def errand_text(statements):
    """The text of a right errand."""
    return "\n".join(lines_of(statements, ""))


def lines_of(body, indent):
    """The list of the lines of the statements of a body."""
    lines = []
    for statement in body:
        lines.append(f"{indent}{line_of(statement)}")
        if statement[0] in ("until", "each"):
            lines.extend(lines_of(body_of(statement), f"{indent}{INDENT}"))
            lines.append(f"{indent}done")
    return lines


def line_of(statement):
    """The first line of a right statement, without its indent."""
    word = statement[0]
    if word in ("light", "offer"):
        return f"{word} {statement[1]} from {statement[2]}"
    if word == "spread":
        return f"spread {number_text(statement[1])}"
    if word == "until":
        return f"until {statement[1]} {number_text(statement[2])}"
    return " ".join(["each", *statement[1]])


def parse_errand(text):
    """The tuple of the statements with this text; raise BadText with the first line that no such text can have."""
    lines = text.split("\n")
    if lines[0] == "":
        # An empty line is the whole text of the empty errand.
        if len(lines) > 1:
            raise BadText(2)
        return ()
    many = 0
    heads = []
    bodies = [[]]
    for line, found in enumerate(lines, start=1):
        depth = len(heads)
        if depth > 0 and found == f"{INDENT * (depth - 1)}done":
            head = heads.pop()
            body = tuple(bodies.pop())
            bodies[-1].append((*head[:-1], body))
            continue
        many += 1
        in_each = any([head[0] == "each" for head in heads])
        statement = read_statement(found, INDENT * depth, in_each, line)
        if many > MOST_STATEMENTS or depth == MOST_DEPTH:
            raise BadText(line)
        if statement[0] in ("until", "each"):
            heads.append(statement)
            bodies.append([])
        else:
            bodies[-1].append(statement)
    if heads:
        raise BadText(len(lines) + 1)
    return tuple(bodies[0])


def read_statement(text, indent, in_each, line):
    """The right statement whose first line this is, with an empty body; raise BadText(line) if there is none."""
    statement = statement_of(text[len(indent):].split(" "), line)
    if not is_right(statement, in_each) or text != f"{indent}{line_of(statement)}":
        raise BadText(line)
    return statement


def statement_of(words, line):
    """The statement that these words could be the line of; the empty tuple if there is none."""
    word = words[0]
    if word in ("light", "offer") and len(words) == 4:
        return (word, words[1], words[3])
    if word == "spread" and len(words) == 2:
        return (word, read_number(words[1], line))
    if word == "until" and len(words) == 3:
        return (word, words[1], read_number(words[2], line), ())
    if word == "each":
        return (word, tuple(words[1:]), ())
    return ()


def lamps_in_order(statements):
    """The list of the names of lamps in reading order, as often as they stand there."""
    lamps = []
    for _, _, statement in statement_rows(statements, (), False):
        if statement[0] in ("light", "offer"):
            lamps.extend(statement[1:])
        elif statement[0] == "until":
            lamps.append(statement[1])
        elif statement[0] == "each":
            lamps.extend(statement[1])
    return [lamp for lamp in lamps if lamp != CURRENT]


def lamps_named(statements):
    """The list of the lamps that a right errand names, in name order without duplicates."""
    return sorted(set(lamps_in_order(statements)))
