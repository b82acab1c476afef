"""What keeps told lamps from their told lights (points 17, 18, 22 and 23), of arguments that are checked already.

A wish and a second world are one thing here: a dict `told` from lamps to the lights that they are to end with, and caps
under which a told lamp has its told light. A second world tells all lamps.
"""
from outshiners.faults import NotComing
from outshiners.floods import free_caps_of, group_with, hanging_lamps, is_in_field, letting_bonds, spread_over
from outshiners.spans import may_take


def told_caps(world, told):
    """The caps of the wish."""
    return {lamp: told.get(lamp, cap) for lamp, cap in free_caps_of(world).items()}


def risen_lamps(world, told):
    """The list of the told lamps whose told light is above their own light."""
    return [lamp for lamp, light in world if lamp in told and told[lamp] > light]


def faults_of(world, told, caps):
    """The list with one fault for each told lamp that has one: dimmer, then ceiling, then shade."""
    risen = risen_lamps(world, told)
    able = [lamp for lamp in risen if may_take(told[lamp], world.web.ceiling(lamp))]
    dimmer = [("dimmer", lamp) for lamp, light in world if lamp in told and told[lamp] < light]
    ceiling = [("ceiling", lamp) for lamp in risen if lamp not in able]
    return dimmer + ceiling + shades_of(world, told, caps, able)


def shades_of(world, told, caps, lamps):
    """The faults of those of the told lamps that do not hang in the field of their told light."""
    hung = {light: hanging_lamps(world, caps, light) for light in sorted({told[lamp] for lamp in lamps})}
    return [
        ("shade", lamp, group_with(world, caps, told[lamp], lamp))
        for lamp in lamps
        if lamp not in hung[told[lamp]]
    ]


def is_granted(world, told, caps):
    """True if the told lamps have no fault, otherwise False."""
    return len(faults_of(world, told, caps)) == 0


def is_fault(world, told, caps, paper):
    """True if the paper is a fault of a told lamp, otherwise False."""
    if len(paper) < 2 or paper[1] not in told:
        return False
    lamp = paper[1]
    light = told[lamp]
    if paper[0] == "dimmer":
        return len(paper) == 2 and light < world.light(lamp)
    if light <= world.light(lamp):
        return False
    if paper[0] == "ceiling":
        return len(paper) == 2 and not may_take(light, world.web.ceiling(lamp))
    return paper[0] == "shade" and len(paper) == 3 and is_shade_of(world, caps, lamp, light, paper[2])


def is_shade_of(world, caps, lamp, light, lamps):
    """True if lamps, which may have any strings in it, is a shade of the lamp for the light, otherwise False."""
    if lamp not in lamps or list(lamps) != sorted(set(lamps)):
        return False
    for inner in lamps:
        if inner not in world.web or world.light(inner) == light:
            return False
    for _, first, second in letting_bonds(world.web, light):
        if (first in lamps) != (second in lamps):
            outer = second if first in lamps else first
            if is_in_field(world, caps, outer, light):
                return False
    return True


def first_obstacle(first, second):
    """The first obstacle on the way from first to second; None if there is none."""
    told = second.lights
    papers = faults_of(first, told, told)
    return papers[0] if papers else None


def check_coming(first, second):
    """Raise NotComing if second does not come of first."""
    paper = first_obstacle(first, second)
    if paper is not None:
        raise NotComing(paper)


def brightest_lights(world, caps):
    """The dict of the greatest light that each lamp can get under the caps."""
    lights = world.lights
    # In ascending order of the lights the last one that reaches a lamp is the greatest one.
    for light in world.borne:
        for lamp in hanging_lamps(world, caps, light):
            lights[lamp] = light
    return lights


def full_history(first, second):
    """A history from first to second, which comes of it: each light is given to all lamps that hang."""
    caps = second.lights
    history = []
    for light in first.borne:
        history.extend([row[0] for row in spread_over(first, caps, light, hanging_lamps(first, caps, light))])
    return history
