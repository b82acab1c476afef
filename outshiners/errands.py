"""Errands, and what they do to a world (points 38, 39 and 41)."""
from outshiners.checks import check_between, check_bonds, check_lamp, check_unlike
from outshiners.deeds import rows_along
from outshiners.faults import BadErrand, Halted
from outshiners.spans import check_number
from outshiners.statements import (
    MOST_STATEMENTS, check_errand, errand_text, lamps_in_order, parse_errand, statement_rows,
)
from outshiners.work import Work, halt_of
from outshiners.worlds import World

MOST_LAMPS = 4
MOST_LIGHTS = 3


class Errand:
    """Statements that are run over a world, one after another."""

    def __init__(self, statements=()):
        self._statements = check_errand(statements)

    @property
    def statements(self):
        """The tuple of the statements."""
        return self._statements

    @property
    def text(self):
        """The text of the errand."""
        return errand_text(self._statements)

    @property
    def size(self):
        """The count of all statements, those in bodies counted."""
        return len(statement_rows(self._statements, (), False))

    @staticmethod
    def parse(text):
        """The Errand with this text; raise BadText if there is none."""
        return Errand(parse_errand(text))

    def __call__(self, world):
        check_named(world.web, self)
        work = Work(world.web, world.row)
        halt = halt_of(work, self._statements)
        reached_world = World.of_row(world.web, work.now)
        if halt is None:
            return ("done", reached_world, work.deeds_done)
        return ("halted", reached_world, work.deeds_done, *halt)

    def __add__(self, other):
        return Errand(self._statements + other._statements)

    def __iter__(self):
        return iter(self._statements)

    def __eq__(self, other):
        return isinstance(other, Errand) and self._statements == other._statements


def check_named(web, errand):
    """Raise Unknown for the first name in the errand that is no lamp of the web."""
    for lamp in lamps_in_order(errand.statements):
        check_lamp(web, lamp)


def reached(errand, world):
    """The World that the errand reaches; raise Halted if it is halted."""
    outcome = errand(world)
    if outcome[0] == "halted":
        raise Halted(outcome[3], outcome[4])
    return outcome[1]


def errand_of(world, history):
    """The Errand that does a deed between the same two lamps for each deed of the history."""
    check_bonds(world.web, history)
    if len(history) > MOST_STATEMENTS:
        raise BadErrand((MOST_STATEMENTS,))
    return Errand([("light", taker, giver) for _, giver, taker, _, _ in rows_along(world, history)])


def errands_part(web, lights, first, second):
    """The first World with these lights in which the two errands end unlike; None if there is none."""
    for light in lights:
        check_number(light)
    check_unlike(lights)
    check_named(web, first)
    check_named(web, second)
    check_between(len(web.lamps), 1, MOST_LAMPS)
    check_between(len(lights), 1, MOST_LIGHTS)
    rows = [()]
    for _ in web:
        rows = [(*row, light) for row in rows for light in sorted(lights)]
    for row in rows:
        if end_over(web, row, first) != end_over(web, row, second):
            return World.of_row(web, row)
    return None


def end_over(web, row, errand):
    """The pair (whether the errand is halted, the row that it reaches)."""
    work = Work(web, row)
    halt = halt_of(work, errand.statements)
    return (halt is not None, work.now)
