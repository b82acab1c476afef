"""How an errand runs over a world (point 41), of arguments that are checked already."""
from outshiners.faults import Halted
from outshiners.reach import arcs_of, lamp_places
from outshiners.statements import CURRENT

MOST_BEGUN = 300


class Work:
    """A world on which an errand works, and what has been done so far; only this object changes."""

    def __init__(self, web, row):
        self._arcs = arcs_of(web)
        self._places = lamp_places(web)
        self._begun = 0
        self.now = row
        self.deeds_done = []

    def run_body(self, body, around, current):
        """Run the statements of a body one after another; raise Halted at the one at which the errand is halted."""
        for at, statement in enumerate(body):
            self.run_statement(statement, (*around, at), current)

    def run_statement(self, statement, place, current):
        """Run one statement; current is the lamp of the innermost `each` around it."""
        if self._begun == MOST_BEGUN:
            raise Halted(place, "long")
        self._begun += 1
        word = statement[0]
        if word == "spread":
            self.spread_light(statement[1])
        elif word == "until":
            self.run_until(statement, place, current)
        elif word == "each":
            for lamp in statement[1]:
                self.run_body(statement[2], place, lamp)
        else:
            why = self.give(meant(statement[1], current), meant(statement[2], current))
            if word == "light" and why is not None:
                raise Halted(place, why)

    def run_until(self, statement, place, current):
        """Run the body of an `until` as often as it asks for it; raise Halted if a turn did nothing."""
        _, lamp, light, body = statement
        lamp_place = self._places[meant(lamp, current)]
        while self.now[lamp_place] < light:
            before = len(self.deeds_done)
            self.run_body(body, place, current)
            if len(self.deeds_done) == before:
                raise Halted(place, "idle")

    def spread_light(self, light):
        """Do the first possible deed that gives the light, as long as there is one."""
        able = self.deeds_giving(light)
        while able:
            bond, taker = able[0]
            self.do_deed(bond, taker, light)
            able = self.deeds_giving(light)

    def deeds_giving(self, light):
        """The list of the pairs (bond, place of the taker) of the possible deeds that give the light."""
        return [
            (bond, taker)
            for bond, giver, taker, low, high, ceiling in self._arcs
            if self.now[giver] == light and self.now[taker] < light and low <= light <= high and light <= ceiling
        ]

    def give(self, taker_name, giver_name):
        """Do the deed by which the one lamp takes the light of the other one; the cause if it is refused, or None."""
        giver = self._places[giver_name]
        taker = self._places[taker_name]
        light = self.now[giver]
        arcs = [arc for arc in self._arcs if arc[1] == giver and arc[2] == taker]
        letting = [arc for arc in arcs if arc[3] <= light <= arc[4]]
        if not arcs:
            return "apart"
        if light <= self.now[taker]:
            return "dim"
        if not letting:
            return "shut"
        if light > letting[0][5]:
            return "ceiling"
        self.do_deed(letting[0][0], taker, light)
        return None

    def do_deed(self, bond, taker, light):
        """Note the deed, and give the light to the lamp at this place."""
        self.now = self.now[:taker] + (light,) + self.now[taker + 1:]
        self.deeds_done.append(bond)


def meant(name, current):
    """The lamp that is meant by a name in a statement."""
    return current if name == CURRENT else name


def halt_of(work, statements):
    """Run the statements; the pair (place, cause) if they are halted, otherwise None."""
    try:
        work.run_body(statements, (), None)
    except Halted as halt:
        return (halt.place, halt.cause)
    return None
