"""Pieces: worlds with a border, over which two of them are glued together (points 31 and 33)."""
from outshiners.checks import check_between, check_lamp, check_unlike
from outshiners.faults import BordersDiffer, Doubled, Unknown
from outshiners.webs import Web
from outshiners.worlds import World

MOST_LAMPS = 6
MOST_BONDS = 8
MOST_BORDER = 3


def check_piece(web, border):
    """Raise what is wrong with a border, or with the size of a piece over the web."""
    check_unlike(border)
    for lamp in border:
        check_lamp(web, lamp)
    check_between(len(web.lamps), 1, MOST_LAMPS)
    check_between(len(web.bonds), 0, MOST_BONDS)
    check_between(len(border), 0, MOST_BORDER)


class Piece:
    """A world some of whose lamps are its border."""

    def __init__(self, world, border=()):
        check_piece(world.web, border)
        self._world = world
        self._border = tuple(sorted(border))

    @property
    def world(self):
        """The World of the piece."""
        return self._world

    @property
    def border(self):
        """The list of the border lamps in name order."""
        return list(self._border)

    @property
    def inner(self):
        """The list of the inner lamps in name order."""
        return [lamp for lamp in self._world.web if lamp not in self._border]

    @property
    def border_rows(self):
        """The list of (lamp, light, ceiling) of the border lamps."""
        return [(lamp, self._world.light(lamp), self._world.web.ceiling(lamp)) for lamp in self._border]

    def without_lamp(self, lamp):
        """A new Piece without this inner lamp and without its bonds."""
        if lamp not in self.inner:
            raise Unknown(lamp)
        web = self._world.web
        check_between(len(web.lamps) - 1, 1, MOST_LAMPS)
        lamp_rows = [row for row in web.lamp_rows if row[0] != lamp]
        bond_rows = [row for row in web.bond_rows if lamp not in row[1:3]]
        lights = {other: light for other, light in self._world if other != lamp}
        return Piece(World(Web(lamp_rows, bond_rows), lights), self._border)

    def without_bond(self, bond):
        """A new Piece without the bond."""
        return Piece(self._world.over(self._world.web.without_bond(bond)), self._border)

    def __eq__(self, other):
        return isinstance(other, Piece) and self._world == other._world and self._border == other._border


def glue(first, second):
    """The World of the two pieces, whose border lamps become one."""
    check_apart(first.inner, second.inner)
    check_apart(first.world.web.bonds, second.world.web.bonds)
    check_fit(first, second)
    web = first.world.web
    other_web = second.world.web
    lamp_rows = web.lamp_rows + [row for row in other_web.lamp_rows if row[0] not in web]
    glued = Web(lamp_rows, web.bond_rows + other_web.bond_rows)
    return World(glued, {**first.world.lights, **second.world.lights})


def check_apart(names, others):
    """Raise Doubled for the first of the names that is also one of the others."""
    for name in names:
        if name in others:
            raise Doubled(name)


def check_fit(first, second):
    """Raise BordersDiffer if the two pieces do not fit."""
    rows = first.border_rows
    other_rows = second.border_rows
    for lamp, light, ceiling in sorted(rows + other_rows, key=lambda row: row[0]):
        if (lamp, light, ceiling) not in rows or (lamp, light, ceiling) not in other_rows:
            raise BordersDiffer(lamp)
