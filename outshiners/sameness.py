"""Whether two worlds are the same but for names and for the distances of numbers (points 29 and 30)."""
from itertools import permutations
from math import factorial

from outshiners.faults import TooLarge
from outshiners.renaming import numbers_of, ranked, rename_world, replaced
from outshiners.spans import is_number
from outshiners.webs import Web

MOST_ARRANGEMENTS = 120


def form(world):
    """The form of the world, a tuple (count of numbers, lamps, bonds)."""
    ranks = closed_ranks(world)
    arrangement = best_arrangement(ranks)
    lamp_rows = tuple([(ranks.light(lamp), ranks.web.ceiling(lamp)) for lamp in arrangement])
    return (len(numbers_of(world)), lamp_rows, bonds_placed(ranks, arrangement))


def alike(left, right):
    """True if renaming and a stretch turn left into right, otherwise False."""
    return form(left) == form(right)


def matching(left, right):
    """Dicts of lamps, bonds and numbers that turn left into right, a tuple; None if the worlds are not alike."""
    if not alike(left, right):
        return None
    left_ranks = closed_ranks(left)
    right_ranks = closed_ranks(right)
    left_lamps = best_arrangement(left_ranks)
    right_lamps = best_arrangement(right_ranks)
    bonds = paired(bonds_in_order(left_ranks, left_lamps), bonds_in_order(right_ranks, right_lamps))
    return (paired(left_lamps, right_lamps), bonds, paired(numbers_of(left), numbers_of(right)))


def paired(keys, found):
    """The dict from the keys to what was found in the same places, built in ascending order of the keys."""
    return dict(sorted(zip(keys, found)))


def is_matching(left, right, lamps, bonds, numbers):
    """True if the three dicts turn left into right, otherwise False."""
    if sorted(lamps) != left.web.lamps or sorted(bonds) != left.web.bonds or sorted(numbers) != numbers_of(left):
        return False
    if sorted(list(lamps.values())) != right.web.lamps or sorted(list(bonds.values())) != right.web.bonds:
        return False
    new_numbers = [numbers[number] for number in sorted(numbers)]
    if not all([is_number(number) for number in new_numbers]) or new_numbers != sorted(set(new_numbers)):
        return False
    return replaced(rename_world(left, lamps, bonds), numbers) == right


def first_difference(left, right):
    """What is the first difference of the two forms, a tuple; None if the worlds are alike."""
    left_form = form(left)
    right_form = form(right)
    counts = [
        ("numbers", left_form[0], right_form[0]),
        ("lamps", len(left_form[1]), len(right_form[1])),
        ("bonds", len(left_form[2]), len(right_form[2])),
    ]
    for word, left_count, right_count in counts:
        if left_count != right_count:
            return (word, left_count, right_count)
    for word, part in (("lamp", 1), ("bond", 2)):
        for place, (left_row, right_row) in enumerate(zip(left_form[part], right_form[part])):
            if left_row != right_row:
                return (word, place, left_row, right_row)
    return None


def closed_ranks(world):
    """The ranked world, in which an open low is -1, and an open high and a missing ceiling the count of numbers."""
    ranks = ranked(world)
    many = len(numbers_of(world))
    lamp_rows = [(lamp, many if ceiling is None else ceiling) for lamp, ceiling in ranks.web.lamp_rows]
    bond_rows = [
        (bond, first, second, -1 if low is None else low, many if high is None else high)
        for bond, first, second, low, high in ranks.web.bond_rows
    ]
    return ranks.over(Web(lamp_rows, bond_rows))


def key_of(ranks, lamp):
    """The key of the lamp of a world of closed ranks."""
    web = ranks.web
    arms = []
    for bond in web.bonds_of(lamp):
        other = web.across(bond, lamp)
        arms.append((web.span(bond).low, web.span(bond).high, ranks.light(other), web.ceiling(other)))
    return (ranks.light(lamp), web.ceiling(lamp), len(arms), tuple(sorted(arms)))


def lamps_by_key(ranks):
    """The list of the lists of lamps with equal keys, in ascending order of the keys."""
    keys = {lamp: key_of(ranks, lamp) for lamp in ranks.web}
    return [[lamp for lamp in keys if keys[lamp] == key] for key in sorted(set(list(keys.values())))]


def arrangements(ranks):
    """The list of the arrangements; raise TooLarge if they are too many."""
    together = lamps_by_key(ranks)
    many = 1
    for lamps in together:
        many = many * factorial(len(lamps))
    if many > MOST_ARRANGEMENTS:
        raise TooLarge(MOST_ARRANGEMENTS)
    found = [[]]
    for lamps in together:
        found = [begun + list(order) for begun in found for order in permutations(lamps)]
    return found


def best_arrangement(ranks):
    """The arrangement, a list of lamps, that gives the bonds of the form."""
    return min([(bonds_placed(ranks, lamps), lamps) for lamps in arrangements(ranks)])[1]


def bonds_placed(ranks, arrangement):
    """The ascending tuple of (i, j, low, high) over all bonds, where i and j are places in the arrangement."""
    return tuple([row[:4] for row in named_rows(ranks, arrangement)])


def bonds_in_order(ranks, arrangement):
    """The list of the bonds in the order in which the arrangement places them."""
    return [row[4] for row in named_rows(ranks, arrangement)]


def named_rows(ranks, arrangement):
    """The ascending list of (i, j, low, high, bond) over all bonds."""
    rows = []
    for bond, first, second, low, high in ranks.web.bond_rows:
        places = sorted([arrangement.index(first), arrangement.index(second)])
        rows.append((*places, low, high, bond))
    return sorted(rows)
