"""Common futures of two worlds, cut lists against them, and pasts of a world (points 25 and 26)."""
from outshiners.aims import first_obstacle, full_history, is_shade_of
from outshiners.checks import check_keys, check_same_web
from outshiners.faults import TooLarge
from outshiners.floods import group_with
from outshiners.spans import LIMIT, check_number, is_number, may_take
from outshiners.worlds import World

MOST_CANDIDATES = 64


def common_future(first, second):
    """The brightest common future, a World; None if there is none."""
    check_same_web(first, second)
    _, sets = cut_down(first, second)
    return None if has_empty(sets) else World(first.web, tops_of(sets))


def meet(first, second):
    """The tuple of the brightest common future and a history of each world to it; None if there is none."""
    found = common_future(first, second)
    if found is None:
        return None
    return (found, full_history(first, found), full_history(second, found))


def cuts(first, second):
    """A right cut list; None if there is a common future."""
    check_same_web(first, second)
    rows, sets = cut_down(first, second)
    return rows if has_empty(sets) else None


def cut_down(first, second):
    """The pair (rows of cuts, what they leave of the sets): cut until nothing can be cut or a set is empty."""
    sets = whole_sets(first, second)
    rows = []
    row = next_cut(first, second, sets)
    while row is not None:
        rows.append(row)
        sets[row[0]] = [light for light in sets[row[0]] if light != row[1]]
        row = None if has_empty(sets) else next_cut(first, second, sets)
    return (rows, sets)


def whole_sets(first, second):
    """The dict from each lamp to the ascending list of the lights that the one or the other world bears."""
    return {lamp: sorted(set(first.borne + second.borne)) for lamp in first.web}


def has_empty(sets):
    """True if some lamp has an empty set."""
    return any([len(lights) == 0 for lights in list(sets.values())])


def tops_of(sets):
    """The dict from each lamp to its top, as caps; a lamp without a top has a cap below every light."""
    below_all = -LIMIT - 1
    return {lamp: max(lights, default=below_all) for lamp, lights in sets.items()}


def next_cut(first, second, sets):
    """A row that cuts the top of a lamp; None if no top can be cut."""
    tops = tops_of(sets)
    for lamp, light in tops.items():
        for side, world in ((1, first), (2, second)):
            paper = reason_for(world, tops, lamp, light)
            if paper is not None:
                return (lamp, light, side, paper)
    return None


def reason_for(world, tops, lamp, light):
    """The reason for which the lamp cannot have its top, which is the light, in a future of the world; None if none."""
    group = group_with(world, tops, light, lamp) if world.light(lamp) < light else ()
    for paper in (("dimmer",), ("ceiling",), ("shade", group)):
        if is_reason(world, tops, lamp, light, paper):
            return paper
    return None


def is_reason(world, tops, lamp, light, paper):
    """True if the paper is a reason to cut the light, otherwise False."""
    if paper == ("dimmer",):
        return light < world.light(lamp)
    if light <= world.light(lamp):
        return False
    if paper == ("ceiling",):
        return not may_take(light, world.web.ceiling(lamp))
    return len(paper) == 2 and paper[0] == "shade" and is_shade_of(world, tops, lamp, light, paper[1])


def is_cuts(first, second, rows):
    """True if the rows are a right cut list, otherwise False."""
    check_same_web(first, second)
    sets = whole_sets(first, second)
    for row in rows:
        if not is_cut(first, second, sets, row):
            return False
        sets[row[0]] = [light for light in sets[row[0]] if light != row[1]]
    return has_empty(sets)


def is_cut(first, second, sets, row):
    """True if the row may stand where these sets are left, otherwise False."""
    if len(row) != 4:
        return False
    lamp, light, side, paper = row
    if lamp not in sets or not is_number(light) or light not in sets[lamp] or not is_number(side):
        return False
    if side != 1 and side != 2:
        return False
    return is_reason(first if side == 1 else second, tops_of(sets), lamp, light, paper)


def pasts(world, choices):
    """The list of the candidates of which the world comes, ordered by their rows."""
    for lamp in sorted(choices):
        for number in choices[lamp]:
            check_number(number)
    check_keys(world.web, choices)
    chosen = {lamp: sorted(set(choices[lamp])) if lamp in choices else [light] for lamp, light in world}
    return [past for past in candidates(world.web, chosen) if first_obstacle(past, world) is None]


def candidates(web, chosen):
    """The list of the Worlds that have one of the chosen lights for each lamp; raise TooLarge if they are too many."""
    many = 1
    for lights in list(chosen.values()):
        many = many * len(lights)
    if many > MOST_CANDIDATES:
        raise TooLarge(MOST_CANDIDATES)
    # Without this the rows of the lamps ahead of an empty list could be very many.
    if many == 0:
        return []
    rows = [()]
    for lamp in web:
        rows = [(*row, light) for row in rows for light in chosen[lamp]]
    return [World.of_row(web, row) for row in rows]
