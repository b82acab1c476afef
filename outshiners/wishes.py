"""Wishes: what told lamps are to end with, and what all worlds that grant this have (points 22 and 23)."""
from outshiners.aims import brightest_lights, faults_of, full_history, is_fault, is_granted, told_caps
from outshiners.checks import check_between, check_keys, check_lamp, check_values
from outshiners.deeds import is_history, replay
from outshiners.faults import Ungranted
from outshiners.hung import fewest_of, history_with, most_of, sizes_by_light
from outshiners.spans import check_number
from outshiners.weights import deeds_shown, least_tables
from outshiners.worlds import World


def told_of(world, wish, numbers=()):
    """The wish as a dict in name order; raise what is wrong with it, or with numbers that are passed behind it."""
    told = {} if wish is None else wish
    check_values(told)
    for number in numbers:
        check_number(number)
    check_keys(world.web, told)
    return {lamp: told[lamp] for lamp in sorted(told)}


def check_granted(world, told):
    """The caps of the wish; raise Ungranted if it is not granted."""
    caps = told_caps(world, told)
    papers = faults_of(world, told, caps)
    if papers:
        raise Ungranted(papers[0])
    return caps


def wish_caps(world, wish):
    """The caps of the wish, a dict in name order."""
    return told_caps(world, told_of(world, wish))


def wish_faults(world, wish):
    """The list with one fault for each told lamp that has one: dimmer, then ceiling, then shade."""
    told = told_of(world, wish)
    return faults_of(world, told, told_caps(world, told))


def wish_fault(world, wish):
    """The first fault of the wish; None if there is none."""
    papers = wish_faults(world, wish)
    return papers[0] if papers else None


def is_wish_fault(world, wish, paper):
    """True if the paper is a fault of the wish, otherwise False."""
    told = told_of(world, wish)
    return is_fault(world, told, told_caps(world, told), paper)


def granted(world, wish=None):
    """True if some world grants the wish, otherwise False."""
    return len(wish_faults(world, wish)) == 0


def brightest(world, wish=None):
    """The brightest World that grants the wish; raise Ungranted if none does."""
    return World(world.web, brightest_lights(world, check_granted(world, told_of(world, wish))))


def grant(world, wish=None):
    """The tuple of the brightest World that grants the wish and a history to it; raise Ungranted if none does."""
    found = brightest(world, wish)
    return (found, full_history(world, found))


def is_grant(world, wish, found, history):
    """True if the history leads to found and each told lamp has its told light in it, otherwise False."""
    return is_served(world, told_of(world, wish), found, history)


def is_served(world, told, found, history):
    """The answer of is_grant for a wish that is checked already."""
    if not world.web == found.web or not is_history(world, found, history):
        return False
    return all([found.light(lamp) == told[lamp] for lamp in told])


def lights_of(world, wish, lamp):
    """The ascending list of the lights that the lamp burns with in the worlds that grant the wish."""
    told = told_of(world, wish)
    check_lamp(world.web, lamp)
    caps = check_granted(world, told)
    if lamp in told:
        return [told[lamp]]
    return [
        light for light in world.borne
        if is_granted(world, {**told, lamp: light}, {**caps, lamp: light})
    ]


def dimmest_light(world, wish, lamp):
    """The least light that the lamp burns with in the worlds that grant the wish."""
    return lights_of(world, wish, lamp)[0]


def brightest_light(world, wish, lamp):
    """The greatest light that the lamp burns with in the worlds that grant the wish."""
    return lights_of(world, wish, lamp)[-1]


def wish_counts(world, wish=None):
    """The list of (light, fewest, most): what each borne light adds to the counts of deeds."""
    told = told_of(world, wish)
    return sizes_by_light(world, told, check_granted(world, told))


def fewest_for(world, wish=None):
    """The least count of deeds of a history that serves the wish."""
    return fewest_of(wish_counts(world, wish))


def most_for(world, wish=None):
    """The greatest count of deeds of a history that serves the wish."""
    return most_of(wish_counts(world, wish))


def grant_in(world, wish=None, *, deeds=None):
    """A tuple (World, history) that grants the wish by exactly this count of deeds; None means the fewest."""
    told = told_of(world, wish, () if deeds is None else (deeds,))
    caps = check_granted(world, told)
    rows = sizes_by_light(world, told, caps)
    many = fewest_of(rows) if deeds is None else deeds
    check_between(many, fewest_of(rows), most_of(rows))
    history = history_with(world, told, caps, many)
    return (replay(world, history), history)


def wish_tables(world, wish=None):
    """The list of pairs (light, lower table) for the lights that some told lamp must take, ascending."""
    told = told_of(world, wish)
    return least_tables(world, told, check_granted(world, told))


def is_fewest_grant(world, wish, found, history, tables):
    """True if the history grants the wish and the tables show that no history is shorter, otherwise False."""
    told = told_of(world, wish)
    # A history that serves the wish shows that it is granted, as the tables ask.
    if not is_served(world, told, found, history):
        return False
    return deeds_shown(world, told, told_caps(world, told), tables) == len(history)
