"""What several test files need: an exact comparison, checks of errors and of calls, and worlds."""
import copy
import unittest

from outshiners.webs import Web
from outshiners.worlds import World

LIMIT = 10 ** 12


def same(left, right):
    """True if the values are equal and of the same kinds at every depth (True is not 1)."""
    if type(left) is not type(right):
        return False
    if isinstance(left, (list, tuple)):
        return len(left) == len(right) and all(same(a, b) for a, b in zip(left, right))
    if isinstance(left, dict):
        return same(list(left), list(right)) and same(list(left.values()), list(right.values()))
    return bool(left == right)


def listed(value):
    """The same value with a list in the place of each tuple, at every depth."""
    if isinstance(value, (list, tuple)):
        return [listed(item) for item in value]
    return value


def tupled(value):
    """The same value with a tuple in the place of each list, at every depth."""
    if isinstance(value, (list, tuple)):
        return tuple(tupled(item) for item in value)
    return value


class Case(unittest.TestCase):
    """A test case with the comparisons that the document asks for."""

    def assertSame(self, found, wanted):
        if not same(found, wanted):
            self.fail(f"{found!r} is not exactly {wanted!r}")

    def assertFails(self, error, attributes, call, *args, **named):
        """The call raises exactly this class, with exactly these attributes."""
        try:
            found = call(*args, **named)
        except Exception as raised:
            self.assertIs(type(raised), error)
            self.assertSame(vars(raised), attributes)
        else:
            self.fail(f"no {error.__name__}, but {found!r}")

    def assertCall(self, call, names, values, wanted):
        """The call gives the answer by position, by name in any order, and again; it changes nothing."""
        before = copy.deepcopy(values)
        many = len(values)
        for split in range(many + 1):
            named = dict(reversed(list(zip(names[split:], values[split:]))))
            self.assertSame(call(*values[:split], **named), wanted)
        for other in (listed, tupled):
            self.assertSame(call(*[other(value) for value in values]), wanted)
        self.assertSame(values, before)

    def assertFreshList(self, hand_out):
        """What is handed out can be changed without effect on the next answer."""
        first = hand_out()
        kept = copy.deepcopy(first)
        first.append("changed")
        first.reverse()
        self.assertSame(hand_out(), kept)
        second = hand_out()
        second.clear()
        self.assertSame(hand_out(), kept)


def sample_web():
    """The web W of the document."""
    return Web([("a", None), ("b", 4), ("c", None)], [("k", "a", "b", None, None), ("m", "b", "c", 0, 3)])


def sample_world():
    """The world S of the document."""
    return World(sample_web(), {"a": 5, "b": 1, "c": 3})


def path_world():
    """Four lamps in a row, joined by p, q and r; r is doubled by s, which lets nothing below 7 pass."""
    web = Web(
        [("a", None), ("b", None), ("c", 8), ("d", 6)],
        [("p", "a", "b", None, None), ("q", "b", "c", None, 9), ("r", "c", "d", 2, None), ("s", "c", "d", 7, None)],
    )
    return World(web, {"a": 5, "b": 3, "c": 1, "d": 0})


def worlds_over(web, lights):
    """All worlds over the web in which each lamp has one of the lights."""
    rows = [()]
    for _ in web.lamps:
        rows = [row + (light,) for row in rows for light in lights]
    return [World.of_row(web, row) for row in rows]


def histories_of(world):
    """All histories of the world, found by nothing but the words of points 11 and 12."""
    found = [()]
    lights = world.lights
    for bond, low_end, high_end, low, high in world.web.bond_rows:
        for giver, taker in ((low_end, high_end), (high_end, low_end)):
            light = lights[giver]
            if light <= lights[taker] or (low is not None and light < low) or (high is not None and light > high):
                continue
            ceiling = world.web.ceiling(taker)
            if ceiling is not None and light > ceiling:
                continue
            after = World(world.web, {**lights, taker: light})
            found.extend((bond,) + rest for rest in histories_of(after))
    return found
