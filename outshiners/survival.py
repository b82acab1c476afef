"""Which lights survive a wish, and which lamps carry them (point 24)."""
from outshiners.aims import brightest_lights, is_granted, told_caps
from outshiners.checks import check_between, check_unlike, check_values
from outshiners.spans import check_number
from outshiners.wishes import check_granted, is_served, told_of
from outshiners.worlds import World

MOST_LIGHTS = 3


def may_survive(world, wish=None):
    """The ascending list of the borne lights that some world that grants the wish bears."""
    told = told_of(world, wish)
    check_granted(world, told)
    return [light for light in world.borne if lamps_for(world, told, [light]) is not None]


def must_survive(world, wish=None):
    """The ascending list of the borne lights that each world that grants the wish bears."""
    told = told_of(world, wish)
    caps = check_granted(world, told)
    return [light for light in world.borne if brightest_without(world, told, caps, light) is None]


def cannot_survive(world, wish=None):
    """The ascending list of the borne lights that no world that grants the wish bears."""
    surviving = may_survive(world, wish)
    return [light for light in world.borne if light not in surviving]


def world_without(world, wish, light):
    """The brightest World that grants the wish and does not bear the light; None if there is none."""
    told = told_of(world, wish, (light,))
    return brightest_without(world, told, check_granted(world, told), light)


def brightest_without(world, told, caps, light):
    """The answer of world_without for a granted wish with these caps."""
    lights = brightest_lights(world, caps)
    bearing = [lamp for lamp in world.web if lights[lamp] == light]
    if any([lamp in told or world.light(lamp) == light for lamp in bearing]):
        return None
    # No world that grants the wish is brighter, so these lamps must stay below the light. The other lamps, and the told
    # ones are among them, have other lights, and caps just below this light stop none of those.
    lower = {lamp: light - 1 if lamp in bearing else cap for lamp, cap in caps.items()}
    return World(world.web, brightest_lights(world, lower))


def survivors(world, wish, lights):
    """The least tuple of lamps, one for each light, that can all burn with them at once; None if there is none."""
    told = told_for(world, wish, lights)
    check_granted(world, told)
    return lamps_for(world, told, lights)


def told_for(world, wish, lights):
    """The wish as a dict in name order; raise what is wrong with it or with the lights that are to survive."""
    check_values({} if wish is None else wish)
    for light in lights:
        check_number(light)
    check_unlike(lights)
    told = told_of(world, wish)
    check_between(len(lights), 0, MOST_LIGHTS)
    return told


def lamps_for(world, told, lights):
    """The least tuple of lamps that can burn with the lights in one granting world; None if there is none."""
    if len(lights) == 0:
        return ()
    for lamp in world.web:
        if told.get(lamp, lights[0]) == lights[0]:
            more = {**told, lamp: lights[0]}
            # Where a part of the lights is too much, more lights do not help.
            if is_granted(world, more, told_caps(world, more)):
                others = lamps_for(world, more, lights[1:])
                if others is not None:
                    return (lamp, *others)
    return None


def is_survivors(world, wish, lights, lamps, found, history):
    """True if the history grants the wish by found, and the lamps burn with the lights in found, otherwise False."""
    told = told_for(world, wish, lights)
    if len(lamps) != len(lights) or not is_served(world, told, found, history):
        return False
    return all([lamp in found.web and found.light(lamp) == light for lamp, light in zip(lamps, lights)])
