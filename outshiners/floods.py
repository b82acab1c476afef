"""Fields of a light and how it spreads in them (points 14 to 16), of arguments that are checked already."""
from outshiners.spans import greater_end


def free_caps_of(world):
    """The free caps of the world."""
    return {
        lamp: None if ceiling is None else greater_end(ceiling, world.light(lamp))
        for lamp, ceiling in world.web.lamp_rows
    }


def is_in_field(world, caps, lamp, light):
    """True if the lamp is in the field of the light."""
    cap = caps[lamp]
    return world.light(lamp) <= light and (cap is None or light <= cap)


def field_lamps(world, caps, light):
    """The list of the lamps of the field of the light."""
    return [lamp for lamp in world.web if is_in_field(world, caps, lamp, light)]


def field_springs(world, caps, light):
    """The list of the springs of the light that are in its field."""
    return [lamp for lamp in world.lamps_with(light) if is_in_field(world, caps, lamp, light)]


def letting_bonds(web, light):
    """The list of (bond, end, end) of the bonds that let the light pass."""
    return [(bond, *web.ends(bond)) for bond in web.bonds if web.lets(bond, light)]


def spread(bonds, starts, inside):
    """The rows (bond, giver, taker) over which the starts reach all lamps of the list inside that they can reach.

    Each lamp is the taker of one row at most, and nearer lamps come first.
    """
    reached = set(starts)
    waiting = list(starts)
    rows = []
    while waiting:
        giver = waiting.pop(0)
        for bond, first, second in bonds:
            if giver in (first, second):
                taker = second if giver == first else first
                if taker in inside and taker not in reached:
                    reached.add(taker)
                    waiting.append(taker)
                    rows.append((bond, giver, taker))
    return rows


def joined_lamps(bonds, starts, inside):
    """The list of the starts and of the lamps inside that are joined with them, in name order."""
    return sorted(list(starts) + [taker for _, _, taker in spread(bonds, starts, inside)])


def groups_in(world, caps, light):
    """The list of the groups of the light, ordered by their first lamp."""
    return joined_groups(letting_bonds(world.web, light), field_lamps(world, caps, light))


def joined_groups(bonds, lamps):
    """The tuples of those of the lamps that are joined with one another, ordered by their first lamp."""
    together = []
    seen = set()
    for lamp in sorted(lamps):
        if lamp not in seen:
            group = joined_lamps(bonds, [lamp], lamps)
            together.append(tuple(group))
            for member in group:
                seen.add(member)
    return together


def group_with(world, caps, light, lamp):
    """The group of the light that contains this lamp of its field, a tuple."""
    bonds = letting_bonds(world.web, light)
    return tuple(joined_lamps(bonds, [lamp], field_lamps(world, caps, light)))


def hanging_lamps(world, caps, light):
    """The list of the lamps that hang in the field of the light."""
    starts = field_springs(world, caps, light)
    return joined_lamps(letting_bonds(world.web, light), starts, field_lamps(world, caps, light))


def spread_over(world, caps, light, lamps):
    """The rows (bond, giver, taker) over which the springs of the light in its field reach the lamps, over these."""
    return spread(letting_bonds(world.web, light), field_springs(world, caps, light), lamps)
