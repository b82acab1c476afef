"""Whether a world comes of another one, and the papers that show that it does not (points 17 and 18)."""
from outshiners.aims import check_coming, faults_of, first_obstacle, full_history, is_fault, is_shade_of
from outshiners.checks import check_caps, check_same_web


def comes(first, second):
    """True if second comes of first, otherwise False."""
    check_same_web(first, second)
    return first_obstacle(first, second) is None


def obstacles(first, second):
    """The list with one obstacle for each lamp that has one: dimmer, then ceiling, then shade."""
    check_same_web(first, second)
    told = second.lights
    return faults_of(first, told, told)


def obstacle(first, second):
    """The first obstacle; None if there is none."""
    check_same_web(first, second)
    return first_obstacle(first, second)


def is_obstacle(first, second, paper):
    """True if the paper is an obstacle, otherwise False."""
    check_same_web(first, second)
    told = second.lights
    return is_fault(first, told, told, paper)


def is_shade(world, caps, lamp, light, lamps):
    """True if lamps is a shade of the lamp for the light, otherwise False."""
    check_caps(world.web, caps, lamps=(lamp,), lights=(light,))
    return is_shade_of(world, caps, lamp, light, lamps)


def history_to(first, second):
    """A history from first to second; raise NotComing if there is none."""
    check_same_web(first, second)
    check_coming(first, second)
    return full_history(first, second)
