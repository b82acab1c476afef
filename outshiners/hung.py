"""Hung sets, their sizes, and histories made of them (points 19 and 23), of arguments that are checked already.

`told` and `caps` are as in aims.py; the told lamps have no fault where a set that contains all due lamps is asked for.
"""
from itertools import combinations

from outshiners.aims import risen_lamps
from outshiners.floods import field_lamps, field_springs, hanging_lamps, letting_bonds, spread, spread_over


def due_lamps(world, told, light):
    """The list of the told lamps that must take the light to end with it."""
    return [lamp for lamp in risen_lamps(world, told) if told[lamp] == light]


def due_lights(world, told):
    """The ascending list of the lights for which a lamp is due."""
    return sorted({told[lamp] for lamp in risen_lamps(world, told)})


def is_hung_set(world, caps, light, lamps):
    """True if lamps, which may have any strings in it, is in name order and a hung set, otherwise False."""
    if list(lamps) != sorted(set(lamps)):
        return False
    inside = field_lamps(world, caps, light)
    for lamp in lamps:
        if lamp not in inside or world.light(lamp) == light:
            return False
    return len(spread_over(world, caps, light, lamps)) == len(lamps)


def greatest_hung(world, caps, light):
    """The list of all lamps that hang and are no springs."""
    return [lamp for lamp in hanging_lamps(world, caps, light) if world.light(lamp) != light]


def least_hung(world, told, caps, light):
    """The least one of the smallest hung sets that contain all due lamps, a list."""
    due = due_lamps(world, told, light)
    bonds = letting_bonds(world.web, light)
    starts = field_springs(world, caps, light)
    free = [lamp for lamp in greatest_hung(world, caps, light) if lamp not in due]
    # Of two lists of one size with the same due lamps that one is less whose other lamps are the less list.
    for size in range(len(free)):
        for more in combinations(free, size):
            lamps = due + list(more)
            if len(spread(bonds, starts, lamps)) == len(lamps):
                return sorted(lamps)
    return sorted(due + free)


def hung_of_size(world, told, caps, light, size):
    """A hung set with this count of lamps that contains all due lamps, a list in name order."""
    least = least_hung(world, told, caps, light)
    starts = field_springs(world, caps, light) + least
    rows = spread(letting_bonds(world.web, light), starts, greatest_hung(world, caps, light))
    # Each lamp that is reached hangs on lamps that are reached ahead of it.
    return sorted(least + [taker for _, _, taker in rows[:size - len(least)]])


def sizes_by_light(world, told, caps):
    """The list of (light, least size, greatest size) of the hung sets with all due lamps, for each borne light."""
    return [
        (light, len(least_hung(world, told, caps, light)), len(greatest_hung(world, caps, light)))
        for light in world.borne
    ]


def fewest_of(rows):
    """The sum of the least sizes."""
    return sum([least for _, least, _ in rows])


def most_of(rows):
    """The sum of the greatest sizes."""
    return sum([greatest for _, _, greatest in rows])


def history_with(world, told, caps, deeds):
    """A history with this count of deeds, which is in reach, that brings the told lamps to their told lights."""
    rows = sizes_by_light(world, told, caps)
    left = deeds - fewest_of(rows)
    history = []
    for light, least, greatest in rows:
        more = min(left, greatest - least)
        left = left - more
        lamps = hung_of_size(world, told, caps, light, least + more)
        history.extend([bond for bond, _, _ in spread_over(world, caps, light, lamps)])
    return history
