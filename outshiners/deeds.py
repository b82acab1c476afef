"""Deeds, each named by a bond, and histories of deeds (points 11 to 13)."""
from outshiners.checks import check_between, check_bonds, check_lamp, check_same_web
from outshiners.faults import Broken, Refused
from outshiners.spans import check_number, may_take


def cause(world, bond):
    """The cause for which the deed is refused; None if it is possible."""
    ends = giver_taker(world, bond)
    if ends is None:
        return "alike"
    giver, taker = ends
    light = world.light(giver)
    if not world.web.lets(bond, light):
        return "shut"
    if not may_take(light, world.web.ceiling(taker)):
        return "ceiling"
    return None


def take(world, bond):
    """The World after the deed; raise Refused if it is refused."""
    why = cause(world, bond)
    if why is not None:
        raise Refused(bond, why)
    giver, taker = giver_taker(world, bond)
    return world.with_light(taker, world.light(giver))


def possible(world):
    """The list of the bonds over which a deed is possible."""
    return [bond for bond in world.web.bonds if cause(world, bond) is None]


def at_rest(world):
    """True if no deed is possible, otherwise False."""
    return len(possible(world)) == 0


def giver_taker(world, bond):
    """The tuple of the brighter and the dimmer end; None if both have the same light."""
    first, second = world.web.ends(bond)
    if world.light(first) == world.light(second):
        return None
    if world.light(first) > world.light(second):
        return (first, second)
    return (second, first)


def replay(world, history):
    """The World at the end of the history."""
    return worlds_along(world, history)[-1]


def worlds_along(world, history):
    """The list of the Worlds before the first deed and after each one."""
    # The whole history is read for unknown bonds before any deed is done.
    check_bonds(world.web, history)
    now = world
    worlds = [now]
    for place, bond in enumerate(history):
        why = cause(now, bond)
        if why is not None:
            raise Broken(place, bond, why)
        now = take(now, bond)
        worlds.append(now)
    return worlds


def rows_along(world, history):
    """One tuple (bond, giver, taker, old light, new light of the taker) for each deed."""
    worlds = worlds_along(world, history)
    return [deed_row(before, bond) for before, bond in zip(worlds, history)]


def deed_row(world, bond):
    """The row of a possible deed, as in rows_along."""
    giver, taker = giver_taker(world, bond)
    return (bond, giver, taker, world.light(taker), world.light(giver))


def feeders(world, history):
    """For each deed the place of the deed by which its giver took the light; None if by none."""
    return feeders_in(rows_along(world, history))


def feeders_in(rows):
    """The feeders of a history with these rows."""
    last_taken = {}
    places = []
    for place, (_, giver, taker, _, _) in enumerate(rows):
        places.append(last_taken.get(giver))
        last_taken[taker] = place
    return places


def chain_to(world, history, lamp):
    """The ascending list of the places of the deeds that bring the lamp its last light."""
    check_bonds(world.web, history)
    check_lamp(world.web, lamp)
    rows = rows_along(world, history)
    fed_by = feeders_in(rows)
    takes = [place for place, row in enumerate(rows) if row[2] == lamp]
    place = takes[-1] if takes else None
    chain = []
    while place is not None:
        chain.append(place)
        place = fed_by[place]
    return sorted(chain)


def split_at(world, history, place):
    """The tuple of the first deeds, the World after them, and the other deeds."""
    check_number(place)
    check_bonds(world.web, history)
    check_between(place, 0, len(history))
    worlds = worlds_along(world, history)
    return (list(history[:place]), worlds[place], list(history[place:]))


def joined(world, left, right):
    """The list of the deeds of left and then those of right, replayed."""
    history = list(left) + list(right)
    worlds_along(world, history)
    return history


def by_light(world, history):
    """The list of the same deeds, those that give a dimmer light first."""
    # Python's sort keeps the order of deeds that give the same light.
    rows = sorted(rows_along(world, history), key=lambda row: row[4])
    return [row[0] for row in rows]


def is_history(first, second, history):
    """True if the history, which may have any strings in it, leads from first to second."""
    check_same_web(first, second)
    known = first.web.bonds
    now = first
    for bond in history:
        if bond not in known or cause(now, bond) is not None:
            return False
        now = take(now, bond)
    return now == second
