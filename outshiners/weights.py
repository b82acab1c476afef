"""Open groups and lower tables (points 20 and 21), of arguments that are checked already.

`told` and `caps` are as in aims.py, and the told lamps have no fault; so each spring of a light is in its field.
"""
from itertools import combinations

from outshiners.faults import TooLarge
from outshiners.floods import field_springs, hanging_lamps, joined_groups, letting_bonds
from outshiners.hung import due_lamps, due_lights
from outshiners.spans import is_number

MOST_OPEN_GROUPS = 5
# More than the weight of all lamps of a web.
HEAVY = 1000


def open_groups_of(world, told, caps, light):
    """The list of the open groups of the light, tuples of lamps."""
    starts = field_springs(world, caps, light)
    lamps = due_lamps(world, told, light) + starts
    together = joined_groups(letting_bonds(world.web, light), lamps)
    return [group for group in together if not any([lamp in starts for lamp in group])]


def check_few_groups(world, told, caps, light):
    """Raise TooLarge if the light has too many open groups."""
    if len(open_groups_of(world, told, caps, light)) > MOST_OPEN_GROUPS:
        raise TooLarge(MOST_OPEN_GROUPS)


def weights_of(world, told, caps, light):
    """The dict from the lamps of the base to their weights."""
    due = due_lamps(world, told, light)
    free = field_springs(world, caps, light) + due
    return {lamp: 0 if lamp in free else 1 for lamp in hanging_lamps(world, caps, light)}


def neighbours_in(world, caps, light):
    """The list of the ordered pairs of neighbours in the base."""
    base = hanging_lamps(world, caps, light)
    starts = field_springs(world, caps, light)
    bonds = letting_bonds(world.web, light)
    pairs = [(first, second) for _, first, second in bonds if first in base and second in base]
    pairs = pairs + [(first, second) for first in starts for second in starts if first < second]
    return pairs + [(second, first) for first, second in pairs]


def place_sets(many):
    """The list of all nonempty ascending tuples of the places below many, the smaller ones first."""
    return [places for size in range(1, many + 1) for places in combinations(list(range(many)), size)]


def halves(places):
    """The list of the pairs of nonempty tuples that together have the places, each one once."""
    found = []
    for size in range(1, len(places)):
        for left in combinations(list(places), size):
            if left[0] == places[0]:
                found.append((left, tuple([place for place in places if place not in left])))
    return found


def least_table(world, told, caps, light):
    """The rows of the lower table with the least total weights."""
    together = open_groups_of(world, told, caps, light)
    weights = weights_of(world, told, caps, light)
    pairs = neighbours_in(world, caps, light)
    numbers = {}
    for places in place_sets(len(together)):
        for lamp, weight in weights.items():
            sums = [numbers[(lamp, left)] + numbers[(lamp, right)] - weight for left, right in halves(places)]
            is_there = len(places) == 1 and lamp in together[places[0]]
            numbers[(lamp, places)] = 0 if is_there else min(sums, default=HEAVY)
        lower_over_bonds(numbers, places, weights, pairs)
    return [(lamp, places, numbers[(lamp, places)]) for lamp, places in sorted(numbers)]


def lower_over_bonds(numbers, places, weights, pairs):
    """Lower the numbers with these places until no lamp is more than its weight above a neighbour."""
    # A least sum passes each lamp once at most, so that so many rounds are enough.
    for _ in range(len(weights)):
        for lamp, other in pairs:
            over_other = numbers[(other, places)] + weights[lamp]
            numbers[(lamp, places)] = min(numbers[(lamp, places)], over_other)


def numbers_in(rows, wanted):
    """The dict from the wanted pairs (lamp, places) to the numbers of the rows; None if the rows have another form."""
    if len(rows) != len(wanted):
        return None
    numbers = {}
    for row, (lamp, places) in zip(rows, wanted):
        if len(row) != 3 or row[0] != lamp or not are_places(row[1], places) or not is_number(row[2]):
            return None
        numbers[(lamp, places)] = row[2]
    return numbers


def are_places(found, places):
    """True if what was found has exactly these places; True and False are none."""
    return tuple(found) == places and all([is_number(place) for place in found])


def is_fair(numbers, together, weights, pairs):
    """True if the numbers keep all three conditions of a fair table, otherwise False."""
    for lamp, places in numbers:
        number = numbers[(lamp, places)]
        if len(places) == 1 and lamp in together[places[0]] and number > 0:
            return False
        for left, right in halves(places):
            if number > numbers[(lamp, left)] + numbers[(lamp, right)] - weights[lamp]:
                return False
    for places in place_sets(len(together)):
        for lamp, other in pairs:
            if numbers[(lamp, places)] > numbers[(other, places)] + weights[lamp]:
                return False
    return True


def fair_value(world, told, caps, light, rows):
    """The value of the rows as a lower table; None if they are none or not fair."""
    together = open_groups_of(world, told, caps, light)
    weights = weights_of(world, told, caps, light)
    all_places = place_sets(len(together))
    numbers = numbers_in(rows, sorted([(lamp, places) for lamp in weights for places in all_places]))
    if numbers is None or not is_fair(numbers, together, weights, neighbours_in(world, caps, light)):
        return None
    if len(together) == 0:
        return 0
    return numbers[(field_springs(world, caps, light)[0], all_places[-1])]


def least_tables(world, told, caps):
    """The list of (light, rows of the least table) for the lights for which a lamp is due; raise TooLarge."""
    lights = due_lights(world, told)
    for light in lights:
        check_few_groups(world, told, caps, light)
    return [(light, least_table(world, told, caps, light)) for light in lights]


def deeds_shown(world, told, caps, tables):
    """The count of deeds that the pairs (light, rows) show to be needed; None if they do not show any."""
    lights = due_lights(world, told)
    if len(tables) != len(lights):
        return None
    total = 0
    for pair, light in zip(tables, lights):
        if len(pair) != 2 or not is_number(pair[0]) or pair[0] != light:
            return None
        if len(open_groups_of(world, told, caps, light)) > MOST_OPEN_GROUPS:
            return None
        value = fair_value(world, told, caps, light, pair[1])
        if value is None:
            return None
        total += len(due_lamps(world, told, light)) + value
    return total
