"""What must be given up so that a world comes of another one, or that a wish is granted (point 37)."""
from itertools import combinations

from outshiners.aims import first_obstacle, is_granted, told_caps
from outshiners.checks import check_between, check_bonds, check_lamp, check_same_web
from outshiners.spans import check_number, may_take
from outshiners.webs import Web
from outshiners.wishes import told_of

MOST_TO_CHANGE = 2


def lifts(first, second):
    """The list of the lamps that are brighter in second and there above their ceiling."""
    check_same_web(first, second)
    return [
        lamp for lamp, light in second
        if light > first.light(lamp) and not may_take(light, first.web.ceiling(lamp))
    ]


def mended(web, lamps, bonds):
    """The Web in which these lamps have no ceiling and these bonds let all lights pass."""
    for lamp in lamps:
        check_lamp(web, lamp)
    check_bonds(web, bonds)
    lamp_rows = [(lamp, None if lamp in lamps else ceiling) for lamp, ceiling in web.lamp_rows]
    bond_rows = [
        (bond, first, second, None, None) if bond in bonds else (bond, first, second, low, high)
        for bond, first, second, low, high in web.bond_rows
    ]
    return Web(lamp_rows, bond_rows)


def comes_mended(first, second, lamps, bonds):
    """True if second comes of first over the mended web, otherwise False."""
    web = mended(first.web, lamps, bonds)
    return first_obstacle(first.over(web), second.over(web)) is None


def mend(first, second, *, most=2):
    """The pair (lamps to lift, the fewest bonds to widen) after which second comes of first; None if there is none."""
    check_number(most)
    check_same_web(first, second)
    check_between(most, 0, MOST_TO_CHANGE)
    # No mend makes a lamp dimmer.
    if not first.under(second):
        return None
    lamps = lifts(first, second)
    for size in range(most + 1):
        for bonds in combinations(first.web.bonds, size):
            if comes_mended(first, second, lamps, bonds):
                return (lamps, list(bonds))
    return None


def is_mend(first, second, lamps, bonds):
    """True if second comes of first over the web that is mended so, otherwise False."""
    check_same_web(first, second)
    known = first.web.bonds
    if not all([lamp in first.web for lamp in lamps]) or not all([bond in known for bond in bonds]):
        return False
    return comes_mended(first, second, lamps, bonds)


def drops(world, wish, *, most=2):
    """The list of the fewest told lamps without which the wish is granted; None if they are more than most."""
    told = told_of(world, wish, (most,))
    check_between(most, 0, MOST_TO_CHANGE)
    for size in range(most + 1):
        for lamps in combinations(list(told), size):
            rest = {lamp: told[lamp] for lamp in told if lamp not in lamps}
            if is_granted(world, rest, told_caps(world, rest)):
                return list(lamps)
    return None
