"""Checks that several modules ask of what they are passed (point 5)."""
from outshiners.faults import Doubled, OutOfRange, Unknown, WebsDiffer


def check_unlike(items):
    """Raise Doubled for the first item that is equal to an earlier one."""
    seen = set()
    for item in items:
        if item in seen:
            raise Doubled(item)
        seen.add(item)


def check_between(number, low, high):
    """Raise OutOfRange for a number that is not between low and high, both included."""
    if number < low or number > high:
        raise OutOfRange(number, low, high)


def look_up(table, name):
    """The value under the name; raise Unknown for a string that is no key."""
    if name not in table:
        raise Unknown(name)
    return table[name]


def check_lamp(web, lamp):
    """Raise Unknown for a string that is no lamp of the web."""
    if lamp not in web:
        raise Unknown(lamp)


def check_bonds(web, bonds):
    """Raise Unknown for the first string that is no bond of the web."""
    known = web.bonds
    for bond in bonds:
        if bond not in known:
            raise Unknown(bond)


def check_same_web(first, second):
    """Raise WebsDiffer for two worlds that do not stand over equal webs."""
    if not first.web == second.web:
        raise WebsDiffer()
