"""Checks that several modules ask of what they are passed (point 5)."""
from outshiners.faults import Doubled, Missing, OutOfRange, Unknown, WebsDiffer
from outshiners.spans import check_number, check_open_number


def check_unlike(items):
    """Raise Doubled for the first item that is equal to an earlier one."""
    seen = set()
    for item in items:
        if item in seen:
            raise Doubled(item)
        seen.add(item)


def check_between(number, low, high):
    """Raise OutOfRange for a number that is not between low and high, both included."""
    if number < low or number > high:
        raise OutOfRange(number, low, high)


def look_up(table, name):
    """The value under the name; raise Unknown for a string that is no key."""
    if name not in table:
        raise Unknown(name)
    return table[name]


def check_lamp(web, lamp):
    """Raise Unknown for a string that is no lamp of the web."""
    if lamp not in web:
        raise Unknown(lamp)


def check_keys(web, table):
    """Raise Unknown for the first key of the dict that is no lamp of the web."""
    for lamp in sorted(table):
        check_lamp(web, lamp)


def check_bonds(web, bonds):
    """Raise Unknown for the first string that is no bond of the web."""
    known = web.bonds
    for bond in bonds:
        if bond not in known:
            raise Unknown(bond)


def check_no_missing(web, table):
    """Raise Missing for the first lamp of the web for which the dict has no key."""
    for lamp in web:
        if lamp not in table:
            raise Missing(lamp)


def check_values(table):
    """Raise BadNumber for a value of the dict, in ascending order of the keys."""
    for key in sorted(table):
        check_number(table[key])


def check_caps(web, caps, lamps=(), lights=()):
    """Raise what is wrong with caps, or with the lamps and the lights that are passed behind them."""
    for lamp in sorted(caps):
        check_open_number(caps[lamp])
    for light in lights:
        check_number(light)
    check_keys(web, caps)
    for lamp in lamps:
        check_lamp(web, lamp)
    check_no_missing(web, caps)


def check_same_web(first, second):
    """Raise WebsDiffer for two worlds that do not stand over equal webs."""
    if not first.web == second.web:
        raise WebsDiffer()
