"""Fields, springs, groups, ways and bands of a light (points 14 to 16)."""
from outshiners.checks import check_caps, check_same_web
from outshiners.floods import (
    field_lamps, field_springs, free_caps_of, groups_in, hanging_lamps, is_in_field, spread_over,
)
from outshiners.intervals import longest_intervals, turning_numbers
from outshiners.spans import check_number


def free_caps(world):
    """The free caps of the world, a dict."""
    return free_caps_of(world)


def springs(world, light):
    """The list of the lamps that burn with the light."""
    return world.lamps_with(light)


def field_under(world, caps, light):
    """The field of the light under the caps, a list of lamps."""
    check_caps(world.web, caps, lights=(light,))
    return field_lamps(world, caps, light)


def groups_under(world, caps, light):
    """The groups of the light under the caps, a list of tuples ordered by their first lamp."""
    check_caps(world.web, caps, lights=(light,))
    return groups_in(world, caps, light)


def field(first, second, light):
    """The field of the light with the lights of second as caps."""
    check_number(light)
    check_same_web(first, second)
    return field_lamps(first, second.lights, light)


def groups(first, second, light):
    """The groups of the light with the lights of second as caps."""
    check_number(light)
    check_same_web(first, second)
    return groups_in(first, second.lights, light)


def hanging(first, second, light):
    """The list of the lamps that hang, with the lights of second as caps."""
    check_number(light)
    check_same_web(first, second)
    return hanging_lamps(first, second.lights, light)


def way(world, caps, lamp, light):
    """A way with the least count of bonds, a pair (spring, list of bonds); None if there is none."""
    check_caps(world.web, caps, lamps=(lamp,), lights=(light,))
    rows = spread_over(world, caps, light, field_lamps(world, caps, light))
    fed_by = {taker: (bond, giver) for bond, giver, taker in rows}
    if lamp not in fed_by and lamp not in field_springs(world, caps, light):
        return None
    at = lamp
    bonds = []
    while at in fed_by:
        bond, at = fed_by[at]
        bonds.append(bond)
    return (at, bonds[::-1])


def is_way(world, caps, lamp, light, found):
    """True if found is a way for the lamp and the light, of any length, otherwise False."""
    check_caps(world.web, caps, lamps=(lamp,), lights=(light,))
    if len(found) != 2:
        return False
    spring, bonds = found
    if spring not in field_springs(world, caps, light):
        return False
    known = world.web.bonds
    at = spring
    for bond in bonds:
        if bond not in known or at not in world.web.ends(bond) or not world.web.lets(bond, light):
            return False
        at = world.web.across(bond, at)
        if not is_in_field(world, caps, at, light):
            return False
    return at == lamp


def bands(world, caps):
    """All bands in ascending order, a list of tuples (low, high, groups)."""
    check_caps(world.web, caps)
    return bands_in(world, caps)


def bands_in(world, caps):
    """The bands under caps that are checked already."""
    return longest_intervals([
        (number, groups_in(world, caps, number)) for number in turning_numbers(world, caps)
    ])


def meeting_lights(world, caps, lamp, other):
    """The ascending list of the longest intervals (low, high) at which both lamps are in one group."""
    check_caps(world.web, caps, lamps=(lamp, other))
    met = []
    goes_on = False
    for low, high, together in bands_in(world, caps):
        meets = any([lamp in group and other in group for group in together])
        if meets and goes_on:
            met[-1] = (met[-1][0], high)
        elif meets:
            met.append((low, high))
        goes_on = meets
    return met
