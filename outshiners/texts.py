"""The texts of webs and worlds, and their readers (point 9)."""
from outshiners.faults import BadText
from outshiners.names import is_name
from outshiners.spans import are_crossed, number_text, parse_number
from outshiners.webs import MOST_BONDS, MOST_LAMPS, Web
from outshiners.worlds import World


def web_text(web):
    """The text of the web."""
    lamp_lines = [f"lamp {lamp} {open_text(ceiling)}" for lamp, ceiling in web.lamp_rows]
    bond_lines = [
        f"bond {bond} {first} {second} {open_text(low)} {open_text(high)}"
        for bond, first, second, low, high in web.bond_rows
    ]
    return "\n".join(["web", *lamp_lines, *bond_lines, "end"])


def world_text(world):
    """The text of the world, which does not tell its web."""
    light_lines = [f"light {lamp} {number_text(light)}" for lamp, light in world]
    return "\n".join(["world", *light_lines, "end"])


def open_text(number):
    """The decimal text of a number, or the word for None."""
    return "none" if number is None else number_text(number)


def parse_web(text):
    """The Web with this text; raise BadText with the first line that no such text can have."""
    lines = text.split("\n")
    if lines[0] != "web":
        raise BadText(1)
    lamp_rows = []
    while begins(lines, len(lamp_rows) + 1, "lamp "):
        at = len(lamp_rows) + 1
        lamp_rows.append(read_lamp(lines[at], at + 1, lamp_rows))
    if len(lamp_rows) == 0:
        raise BadText(2)
    bond_rows = []
    first_bond = len(lamp_rows) + 1
    while begins(lines, first_bond + len(bond_rows), "bond "):
        at = first_bond + len(bond_rows)
        bond_rows.append(read_bond(lines[at], at + 1, lamp_rows, bond_rows))
    check_end(lines, first_bond + len(bond_rows))
    return Web(lamp_rows, bond_rows)


def parse_world(web, text):
    """The World over the web with this text; raise BadText with the first line that no such text can have."""
    lines = text.split("\n")
    if lines[0] != "world":
        raise BadText(1)
    lights = {}
    for at, lamp in enumerate(web, start=1):
        if at == len(lines):
            raise BadText(at + 1)
        words = lines[at].split(" ")
        if len(words) != 3 or words[0] != "light" or words[1] != lamp:
            raise BadText(at + 1)
        lights[lamp] = read_number(words[2], at + 1)
    check_end(lines, len(lights) + 1)
    return World(web, lights)


def begins(lines, at, word):
    """True if there is a line at this place and it begins with the word."""
    return at < len(lines) and lines[at].startswith(word)


def check_end(lines, at):
    """Raise BadText if the line at this place is not the last one, `end`."""
    if at == len(lines) or lines[at] != "end":
        raise BadText(at + 1)
    if at + 1 < len(lines):
        raise BadText(at + 2)


def read_lamp(text, line, rows):
    """The row of the lamp with this text, which stands behind the lamps of rows."""
    words = text.split(" ")
    if len(words) != 3 or len(rows) == MOST_LAMPS or not follows(words[1], rows):
        raise BadText(line)
    return (words[1], read_open(words[2], line))


def read_bond(text, line, lamp_rows, rows):
    """The row of the bond with this text, which stands behind the bonds of rows."""
    words = text.split(" ")
    if len(words) != 6 or len(rows) == MOST_BONDS or not follows(words[1], rows):
        raise BadText(line)
    lamps = [row[0] for row in lamp_rows]
    _, name, first, second, low_word, high_word = words
    if first not in lamps or second not in lamps or first >= second:
        raise BadText(line)
    low = read_open(low_word, line)
    high = read_open(high_word, line)
    if are_crossed(low, high):
        raise BadText(line)
    return (name, first, second, low, high)


def follows(name, rows):
    """True if the string is a name that may stand behind the last one of the rows."""
    return is_name(name) and (len(rows) == 0 or rows[-1][0] < name)


def read_open(word, line):
    """The number or the None that the word tells; raise BadText(line) if it tells neither."""
    return None if word == "none" else read_number(word, line)


def read_number(word, line):
    """The number that the word tells; raise BadText(line) if it tells none."""
    try:
        return parse_number(word)
    except BadText:
        raise BadText(line) from None
