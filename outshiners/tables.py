"""Lower tables, which show that no history is shorter (points 20 and 21)."""
from outshiners.aims import check_coming
from outshiners.checks import check_same_web
from outshiners.deeds import is_history
from outshiners.spans import check_number
from outshiners.weights import (
    check_few_groups, deeds_shown, fair_value, least_table, least_tables, open_groups_of,
)


def open_groups(first, second, light):
    """The open groups of the light, a list of tuples ordered by their first lamp."""
    check_number(light)
    check_same_web(first, second)
    check_coming(first, second)
    return open_groups_of(first, second.lights, second.lights, light)


def lower_table(first, second, light):
    """The lower table with the least total weights, a list of rows (lamp, places, number)."""
    check_asked(first, second, light)
    return least_table(first, second.lights, second.lights, light)


def is_lower_table(first, second, light, rows):
    """True if the rows are a lower table and fair, otherwise False."""
    return table_value(first, second, light, rows) is not None


def table_value(first, second, light, rows):
    """The value of the rows as a fair lower table; None if they are none."""
    check_asked(first, second, light)
    return fair_value(first, second.lights, second.lights, light, rows)


def fewest_tables(first, second):
    """The list of pairs (light, lower table) for the lights for which a lamp is due, ascending."""
    check_same_web(first, second)
    check_coming(first, second)
    return least_tables(first, second.lights, second.lights)


def is_fewest(first, second, history, tables):
    """True if the history and the tables show that no history from first to second is shorter, otherwise False."""
    # A history that leads from first to second shows that second comes of first, as the tables ask.
    if not is_history(first, second, history):
        return False
    return deeds_shown(first, second.lights, second.lights, tables) == len(history)


def check_asked(first, second, light):
    """Raise what is wrong with the worlds and the light of a table."""
    check_number(light)
    check_same_web(first, second)
    check_coming(first, second)
    check_few_groups(first, second.lights, second.lights, light)
