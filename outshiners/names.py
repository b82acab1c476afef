"""Names of lamps and bonds (point 2)."""
from outshiners.checks import check_unlike
from outshiners.faults import BadName

LETTERS = "abcdefghijklmnopqrstuvwxyz"
LETTERS_AND_DIGITS = "abcdefghijklmnopqrstuvwxyz0123456789"
LONGEST_NAME = 8
LONGEST_PREFIX = 4


def is_name(text):
    """True if the string is a name, otherwise False."""
    if len(text) < 1 or len(text) > LONGEST_NAME:
        return False
    return text[0] in LETTERS and all([sign in LETTERS_AND_DIGITS for sign in text])


def check_name(text):
    """The string; raise BadName if it is no name."""
    if not is_name(text):
        raise BadName(text)
    return text


def ordered(names):
    """A new list of the names in name order; raise BadName ahead of Doubled."""
    for name in names:
        check_name(name)
    check_unlike(names)
    return sorted(names)


def fresh_name(names, *, prefix="x"):
    """The prefix with the least number from 0 on behind it that makes none of the names."""
    if not is_name(prefix) or len(prefix) > LONGEST_PREFIX:
        raise BadName(prefix)
    number = 0
    while f"{prefix}{number}" in names:
        number += 1
    return f"{prefix}{number}"
