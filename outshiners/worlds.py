"""Worlds: a web, and a light for each of its lamps (point 8)."""
from outshiners.checks import check_between, check_keys, check_no_missing, check_same_web, check_values, look_up
from outshiners.spans import check_number


def check_lights(web, lights):
    """Raise BadNumber, Unknown or Missing for lights that make no world over the web."""
    check_values(lights)
    if sorted(lights) != web.lamps:
        check_keys(web, lights)
        check_no_missing(web, lights)


class World:
    """A light for each lamp of a web."""

    def __init__(self, web, lights):
        check_lights(web, lights)
        self._web = web
        self._lights = {lamp: lights[lamp] for lamp in web}

    @property
    def web(self):
        """The Web over which this world stands."""
        return self._web

    @property
    def lights(self):
        """A new dict from the lamps to their lights."""
        return dict(self._lights)

    @property
    def row(self):
        """The tuple of the lights in name order of the lamps."""
        return tuple(self._lights.values())

    @property
    def borne(self):
        """The ascending list of the lights with which some lamp burns."""
        return sorted(set(list(self._lights.values())))

    def light(self, lamp):
        """The light of the lamp."""
        return look_up(self._lights, lamp)

    def lamps_with(self, light):
        """The list of the lamps that burn with the light."""
        check_number(light)
        return [lamp for lamp, burning in self._lights.items() if burning == light]

    def with_light(self, lamp, light):
        """A new World in which the lamp burns with this light, whatever its ceiling."""
        lights = dict(self._lights)
        lights[lamp] = light
        return World(self._web, lights)

    def over(self, web):
        """A new World with the same lights over another web."""
        return World(web, self._lights)

    def under(self, other):
        """True if no lamp is brighter in this world than in the other, otherwise False."""
        check_same_web(self, other)
        return all([light <= other._lights[lamp] for lamp, light in self._lights.items()])

    def __contains__(self, light):
        return light in list(self._lights.values())

    def __iter__(self):
        return iter(self._lights.items())

    def __or__(self, other):
        check_same_web(self, other)
        brighter = {lamp: max(light, other._lights[lamp]) for lamp, light in self._lights.items()}
        return World(self._web, brighter)

    def __eq__(self, other):
        return isinstance(other, World) and self._web == other._web and self._lights == other._lights

    @classmethod
    def of_row(cls, web, row):
        """The World with this row, a list of numbers."""
        lamps = web.lamps
        if len(row) != len(lamps):
            # A bad number goes ahead of the length; where the length is right, it is found below.
            for light in row:
                check_number(light)
            check_between(len(row), len(lamps), len(lamps))
        return cls(web, dict(zip(lamps, row)))

    @classmethod
    def flat(cls, web, light):
        """The World in which each lamp has this light."""
        return cls(web, {lamp: light for lamp in web})
