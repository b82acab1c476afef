"""Joinings, and the counts of deeds between two worlds (point 19)."""
from outshiners.aims import check_coming
from outshiners.checks import check_between, check_same_web
from outshiners.hung import (
    due_lamps, fewest_of, greatest_hung, history_with, hung_of_size, is_hung_set, least_hung, most_of, sizes_by_light,
)
from outshiners.spans import check_number, check_open_number


def due(first, second, light):
    """The list of the lamps that are due for the light."""
    check_number(light)
    check_same_web(first, second)
    return due_lamps(first, second.lights, light)


def is_hung(first, second, light, lamps):
    """True if lamps is in name order without duplicates and hung for the light, otherwise False."""
    check_number(light)
    check_same_web(first, second)
    return is_hung_set(first, second.lights, light, lamps)


def least_joining(first, second, light):
    """The least one of the joinings of the least size, a list."""
    check_number(light)
    check_pair(first, second)
    return least_hung(first, second.lights, second.lights, light)


def greatest_joining(first, second, light):
    """The greatest joining, a list."""
    check_number(light)
    check_pair(first, second)
    return greatest_hung(first, second.lights, light)


def joining_of(first, second, light, size):
    """A joining with exactly this count of lamps, a list in name order."""
    check_number(light)
    check_number(size)
    check_pair(first, second)
    caps = second.lights
    check_between(size, len(least_hung(first, caps, caps, light)), len(greatest_hung(first, caps, light)))
    return hung_of_size(first, caps, caps, light, size)


def counts_by_light(first, second):
    """The list of (light, size of the least joining, size of the greatest joining) for each borne light."""
    check_pair(first, second)
    return sizes_by_light(first, second.lights, second.lights)


def fewest_deeds(first, second):
    """The least count of deeds of a history from first to second."""
    return fewest_of(counts_by_light(first, second))


def most_deeds(first, second):
    """The greatest count of deeds of a history from first to second."""
    return most_of(counts_by_light(first, second))


def history_of(first, second, *, deeds=None):
    """A history from first to second with exactly this count of deeds; None means the fewest."""
    check_open_number(deeds)
    rows = counts_by_light(first, second)
    many = fewest_of(rows) if deeds is None else deeds
    check_between(many, fewest_of(rows), most_of(rows))
    return history_with(first, second.lights, second.lights, many)


def check_pair(first, second):
    """Raise WebsDiffer, or NotComing if second does not come of first."""
    check_same_web(first, second)
    check_coming(first, second)
