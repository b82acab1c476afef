"""Points 11 and 12 and the deeds of the interface of deeds.py."""
import unittest

from helpers import LIMIT, Case, path_world, sample_web, sample_world, worlds_over

from outshiners.deeds import at_rest, cause, giver_taker, possible, take
from outshiners.faults import Refused, Unknown
from outshiners.webs import Web
from outshiners.worlds import World


def two_lamps(left, right, ceiling=None, low=None, high=None):
    """A world of the lamps x and y with one bond, where the ceiling is that of y."""
    web = Web([("x", None), ("y", ceiling)], [("b", "x", "y", low, high)])
    return World(web, {"x": left, "y": right})


class Causes(Case):
    def test_possible_deeds(self):
        for world in [
            two_lamps(3, 2), two_lamps(2, 3), two_lamps(3, 2, ceiling=3), two_lamps(3, 2, low=3), two_lamps(3, 2, high=3),
            two_lamps(3, 2, low=3, high=3, ceiling=3), two_lamps(LIMIT, -LIMIT), two_lamps(-LIMIT, LIMIT),
            two_lamps(1, 0), two_lamps(0, -1),
        ]:
            self.assertCall(cause, ["world", "bond"], [world, "b"], None)

    def test_alike_goes_ahead_of_all(self):
        self.assertSame(cause(two_lamps(3, 3), "b"), "alike")
        self.assertSame(cause(two_lamps(3, 3, ceiling=2, low=4), "b"), "alike")

    def test_shut_asks_the_light_of_the_giver(self):
        self.assertSame(cause(two_lamps(3, 2, low=4), "b"), "shut")
        self.assertSame(cause(two_lamps(3, 2, high=2), "b"), "shut")
        self.assertSame(cause(two_lamps(2, 3, low=2, high=2), "b"), "shut")
        self.assertSame(cause(two_lamps(3, 2, high=2, ceiling=2), "b"), "shut")
        # The light of the taker need not pass.
        self.assertIs(cause(two_lamps(3, 2, low=3, high=3), "b"), None)

    def test_the_ceiling_of_the_taker(self):
        self.assertSame(cause(two_lamps(3, 2, ceiling=2), "b"), "ceiling")
        self.assertSame(cause(two_lamps(1, 0, ceiling=0), "b"), "ceiling")
        # The ceiling of the giver is not asked, even where its light is above it.
        self.assertIs(cause(two_lamps(2, 3, ceiling=2), "b"), None)
        self.assertSame(cause(two_lamps(5, 4, ceiling=2), "b"), "ceiling")

    def test_each_cause_over_all_small_worlds(self):
        for ceiling in (None, 0, 1, 2):
            for low, high in [(None, None), (1, None), (None, 1), (1, 1), (0, 2)]:
                for left in range(3):
                    for right in range(3):
                        world = two_lamps(left, right, ceiling, low, high)
                        self.assertSame(cause(world, "b"), told_cause(left, right, ceiling, low, high))

    def test_several_bonds_between_two_lamps(self):
        world = path_world()
        self.assertSame((cause(world, "r"), cause(world, "s")), ("shut", "shut"))
        bright = world.with_light("c", 6)
        self.assertSame((cause(bright, "r"), cause(bright, "s")), (None, "shut"))
        brighter = world.with_light("c", 7)
        self.assertSame((cause(brighter, "r"), cause(brighter, "s")), ("ceiling", "ceiling"))

    def test_unknown_bonds(self):
        for bond in ("a", "q", "", "No Name"):
            for call in (cause, take, giver_taker):
                self.assertFails(Unknown, {"name": bond}, call, sample_world(), bond)
                self.assertFails(Unknown, {"name": bond}, call, bond=bond, world=sample_world())


def told_cause(left, right, ceiling, low, high):
    """The cause in the words of point 12."""
    light = max(left, right)
    if left == right:
        return "alike"
    if (low is not None and light < low) or (high is not None and light > high):
        return "shut"
    if right < left and ceiling is not None and light > ceiling:
        return "ceiling"
    return None


class Takes(Case):
    def test_the_taker_takes_and_nothing_else_changes(self):
        world = sample_world()
        wanted = World.of_row(sample_web(), (5, 3, 3))
        self.assertCall(take, ["world", "bond"], [world, "m"], wanted)
        self.assertSame(world.row, (5, 1, 3))

    def test_refused_deeds(self):
        world = sample_world()
        self.assertFails(Refused, {"bond": "k", "cause": "ceiling"}, take, world, "k")
        self.assertFails(Refused, {"bond": "m", "cause": "alike"}, take, take(world, "m"), "m")
        self.assertFails(Refused, {"bond": "m", "cause": "shut"}, take, world.with_light("c", 4), "m")
        self.assertFails(Refused, {"bond": "b", "cause": "shut"}, take, world=two_lamps(3, 2, 2, 4), bond="b")
        self.assertSame(world.row, (5, 1, 3))

    def test_all_small_worlds(self):
        for world in worlds_over(sample_web(), (0, 1, 2, 3, 4, 5)):
            for bond in world.web.bonds:
                if cause(world, bond) is None:
                    giver, taker = giver_taker(world, bond)
                    wanted = {**world.lights, taker: world.light(giver)}
                    self.assertSame(take(world, bond).lights, wanted)
                else:
                    self.assertFails(Refused, {"bond": bond, "cause": cause(world, bond)}, take, world, bond)


class Possible(Case):
    def test_possible(self):
        self.assertCall(possible, ["world"], [sample_world()], ["m"])
        self.assertSame(possible(path_world()), ["p", "q"])
        self.assertSame(possible(take(path_world(), "q")), ["p", "r"])
        self.assertFreshList(lambda: possible(path_world()))

    def test_at_rest(self):
        self.assertCall(at_rest, ["world"], [sample_world()], False)
        self.assertCall(at_rest, ["world"], [take(sample_world(), "m")], True)
        self.assertSame(at_rest(World.flat(sample_web(), 3)), True)
        self.assertSame(at_rest(World.flat(Web([("a", None)]), 3)), True)

    def test_both_follow_from_the_causes(self):
        for world in worlds_over(sample_web(), (0, 1, 3, 4, 5)):
            found = [bond for bond in ("k", "m") if cause(world, bond) is None]
            self.assertSame(possible(world), found)
            self.assertSame(at_rest(world), found == [])

    def test_giver_taker(self):
        self.assertCall(giver_taker, ["world", "bond"], [sample_world(), "k"], ("a", "b"))
        self.assertCall(giver_taker, ["world", "bond"], [sample_world(), "m"], ("c", "b"))
        self.assertCall(giver_taker, ["world", "bond"], [two_lamps(3, 3), "b"], None)
        self.assertSame(giver_taker(two_lamps(0, -1), "b"), ("x", "y"))
        self.assertSame(giver_taker(two_lamps(-LIMIT, LIMIT), "b"), ("y", "x"))


if __name__ == "__main__":
    unittest.main()
