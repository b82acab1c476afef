"""Point 8 and the interface of worlds.py."""
import unittest

from helpers import LIMIT, Case, path_world, sample_web, sample_world, worlds_over

from outshiners.faults import BadNumber, Missing, OutOfRange, Unknown, WebsDiffer
from outshiners.webs import Web
from outshiners.worlds import World

HUGE = LIMIT + 1
LIGHTS = {"a": 5, "b": 1, "c": 3}


def other_web():
    """A web with the lamps of the sample, and other bonds and ceilings."""
    return Web([("a", 2), ("b", None), ("c", None)], [("k", "a", "c", None, None)])


class Made(Case):
    def test_by_position_and_by_name(self):
        web = sample_web()
        for world in (World(web, LIGHTS), World(web=web, lights=LIGHTS), World(lights=LIGHTS, web=web)):
            self.assertSame(world.row, (5, 1, 3))
            self.assertSame(world.lights, LIGHTS)
            self.assertSame(world.web == web, True)

    def test_the_order_of_the_dict_does_not_matter(self):
        lights = {"c": 3, "b": 1, "a": 5}
        world = World(sample_web(), lights)
        self.assertSame(list(world.lights.items()), [("a", 5), ("b", 1), ("c", 3)])
        self.assertSame(list(lights), ["c", "b", "a"])
        self.assertSame(world == sample_world(), True)

    def test_name_order_is_the_order_of_strings(self):
        web = Web([("b", None), ("a2", None), ("a10", None)])
        self.assertSame(World(web, {"b": 1, "a2": 2, "a10": 3}).row, (3, 2, 1))

    def test_a_light_may_be_above_the_ceiling(self):
        self.assertSame(World(sample_web(), {"a": 0, "b": 9, "c": -LIMIT}).row, (0, 9, -LIMIT))
        self.assertSame(World(sample_web(), {"a": LIMIT, "b": 9, "c": 0}).row, (LIMIT, 9, 0))

    def test_what_is_passed_can_be_changed_later(self):
        lights = dict(LIGHTS)
        world = World(sample_web(), lights)
        lights["a"] = 8
        lights["z"] = 8
        self.assertSame(world.lights, LIGHTS)

    def test_bad_numbers(self):
        web = sample_web()
        for bad in (True, False, HUGE, -HUGE, 10 ** 40):
            self.assertFails(BadNumber, {"number": bad}, World, web, {"a": bad, "b": 1, "c": 3})
            self.assertFails(BadNumber, {"number": bad}, World, web, {"a": 5, "b": 1, "c": bad})
            # A bad value counts under a key that is no lamp too, and ahead of all else.
            self.assertFails(BadNumber, {"number": bad}, World, web, {"z": bad})
            self.assertFails(BadNumber, {"number": bad}, World, web, {"0": 1, "z": bad, "c": 3})

    def test_bad_numbers_are_read_in_ascending_order_of_the_keys(self):
        lights = {"c": HUGE, "b": True, "a": 5, "z": -HUGE}
        self.assertFails(BadNumber, {"number": True}, World, sample_web(), lights)
        self.assertFails(BadNumber, {"number": False}, World, sample_web(), {"a": HUGE, "A": False})

    def test_unknown_keys(self):
        web = sample_web()
        self.assertFails(Unknown, {"name": "d"}, World, web, {**LIGHTS, "z": 1, "d": 1})
        self.assertFails(Unknown, {"name": "k"}, World, web, {**LIGHTS, "k": 1})
        for bad in ("", "A", "abcdefghi"):
            self.assertFails(Unknown, {"name": bad}, World, web, {**LIGHTS, bad: 1})
        # Unknown goes ahead of Missing.
        self.assertFails(Unknown, {"name": "d"}, World, web, {"d": 1})

    def test_missing_keys(self):
        self.assertFails(Missing, {"lamp": "a"}, World, sample_web(), {})
        self.assertFails(Missing, {"lamp": "b"}, World, sample_web(), {"a": 1})
        self.assertFails(Missing, {"lamp": "c"}, World, sample_web(), lights={"b": 1, "a": 1})


class Asked(Case):
    def test_lights_are_new_each_time(self):
        world = sample_world()
        lights = world.lights
        lights["a"] = 99
        del lights["b"]
        self.assertSame(world.lights, LIGHTS)
        self.assertFreshList(lambda: world.borne)
        self.assertFreshList(lambda: world.lamps_with(5))

    def test_borne(self):
        self.assertSame(sample_world().borne, [1, 3, 5])
        self.assertSame(World.of_row(sample_web(), (7, -2, 7)).borne, [-2, 7])
        self.assertSame(World.flat(sample_web(), 0).borne, [0])
        self.assertSame(World.of_row(sample_web(), (10, 9, -10)).borne, [-10, 9, 10])

    def test_light(self):
        world = sample_world()
        for lamp, light in LIGHTS.items():
            self.assertCall(world.light, ["lamp"], [lamp], light)
        for bad in ("k", "z", "", "A"):
            self.assertFails(Unknown, {"name": bad}, world.light, bad)

    def test_lamps_with(self):
        world = World.of_row(sample_web(), (5, 1, 5))
        self.assertCall(world.lamps_with, ["light"], [5], ["a", "c"])
        self.assertCall(world.lamps_with, ["light"], [1], ["b"])
        self.assertCall(world.lamps_with, ["light"], [4], [])
        self.assertSame(world.lamps_with(LIMIT), [])
        for bad in (True, False, HUGE, -HUGE):
            self.assertFails(BadNumber, {"number": bad}, world.lamps_with, bad)

    def test_lights_in_the_world(self):
        world = sample_world()
        for light in range(-3, 9):
            self.assertSame(light in world, light in (1, 3, 5))
        for light in (LIMIT, -LIMIT, HUGE, -HUGE, 10 ** 40):
            self.assertSame(light in world, False)
        self.assertSame(LIMIT in World.flat(sample_web(), LIMIT), True)

    def test_the_loop(self):
        world = World(sample_web(), {"c": 3, "b": 1, "a": 5})
        pairs = [("a", 5), ("b", 1), ("c", 3)]
        self.assertSame(list(world), pairs)
        self.assertSame([(x, y) for x in world for y in world], [(x, y) for x in pairs for y in pairs])

    def test_equality(self):
        world = sample_world()
        self.assertSame(world == World(sample_web(), LIGHTS), True)
        for other in [
            World(sample_web(), {"a": 5, "b": 1, "c": 4}), World(other_web(), LIGHTS),
            World(sample_web().with_ceiling("a", 9), LIGHTS), (5, 1, 3), [5, 1, 3], LIGHTS, 5, "world", sample_web(),
        ]:
            self.assertSame(world == other, False)
            self.assertSame(other == world, False)


class Changed(Case):
    def test_with_light(self):
        world = sample_world()
        wanted = World(sample_web(), {"a": 5, "b": 9, "c": 3})
        self.assertCall(world.with_light, ["lamp", "light"], ["b", 9], wanted)
        self.assertSame(world.with_light("a", -LIMIT).row, (-LIMIT, 1, 3))
        self.assertSame(world.with_light("a", 5), world)
        self.assertSame(world.row, (5, 1, 3))

    def test_with_light_fails(self):
        world = sample_world()
        self.assertFails(Unknown, {"name": "k"}, world.with_light, "k", 1)
        self.assertFails(Unknown, {"name": ""}, world.with_light, "", 1)
        for bad in (True, HUGE):
            self.assertFails(BadNumber, {"number": bad}, world.with_light, "a", bad)
            self.assertFails(BadNumber, {"number": bad}, world.with_light, "k", bad)
            self.assertFails(BadNumber, {"number": bad}, world.with_light, light=bad, lamp="0")

    def test_over(self):
        world = sample_world()
        self.assertCall(world.over, ["web"], [other_web()], World(other_web(), LIGHTS))
        self.assertSame(world.over(other_web()).web == other_web(), True)
        self.assertSame(world.over(sample_web()) == world, True)
        self.assertSame(world.web == sample_web(), True)

    def test_over_fails(self):
        world = sample_world()
        self.assertFails(Unknown, {"name": "b"}, world.over, Web([("a", None), ("d", None)]))
        self.assertFails(Unknown, {"name": "c"}, world.over, Web([("a", None), ("b", None)]))
        web = Web([(name, None) for name in ("a", "b", "c", "d", "a2")])
        self.assertFails(Missing, {"lamp": "a2"}, world.over, web)

    def test_under(self):
        worlds = worlds_over(sample_web(), (0, 1, 2))
        for first in worlds:
            for second in worlds:
                wanted = all(x <= y for x, y in zip(first.row, second.row))
                self.assertSame(first.under(second), wanted)
        self.assertCall(worlds[0].under, ["other"], [worlds[1]], True)

    def test_under_fails(self):
        for other in (World(other_web(), LIGHTS), path_world()):
            self.assertFails(WebsDiffer, {}, sample_world().under, other)
            self.assertFails(WebsDiffer, {}, other.under, other=sample_world())

    def test_the_greater_world(self):
        worlds = worlds_over(sample_web(), (0, 1, 2))
        for first in worlds:
            for second in worlds:
                both = first | second
                self.assertSame(both.row, tuple(max(x, y) for x, y in zip(first.row, second.row)))
                self.assertSame(both.web == sample_web(), True)
        self.assertSame((worlds[0].row, worlds[-1].row), ((0, 0, 0), (2, 2, 2)))

    def test_the_greater_world_fails(self):
        for other in (World(other_web(), LIGHTS), path_world()):
            self.assertFails(WebsDiffer, {}, lambda: sample_world() | other)
            self.assertFails(WebsDiffer, {}, lambda: other | sample_world())

    def test_of_row(self):
        web = sample_web()
        self.assertCall(World.of_row, ["web", "row"], [web, (5, 1, 3)], sample_world())
        self.assertSame(World.flat(web, 0).of_row(web, [5, 1, 3]), sample_world())
        row = [5, 1, 3]
        world = World.of_row(web, row)
        row[0] = 8
        self.assertSame(world.row, (5, 1, 3))

    def test_of_row_fails(self):
        web = sample_web()
        for row in ((), (1,), (1, 2), (1, 2, 3, 4), [0] * 20):
            wrong = {"number": len(row), "low": 3, "high": 3}
            self.assertFails(OutOfRange, wrong, World.of_row, web, row)
        for bad in (True, False, HUGE, -HUGE):
            self.assertFails(BadNumber, {"number": bad}, World.of_row, web, (1, bad, 3))
            self.assertFails(BadNumber, {"number": bad}, World.of_row, web, (bad,))
            self.assertFails(BadNumber, {"number": bad}, World.of_row, web, (1, 2, 3, 4, bad))
            self.assertFails(BadNumber, {"number": bad}, World.of_row, web, (1, bad, True))

    def test_flat(self):
        web = sample_web()
        self.assertCall(World.flat, ["web", "light"], [web, 4], World.of_row(web, (4, 4, 4)))
        self.assertSame(sample_world().flat(web, -LIMIT).row, (-LIMIT,) * 3)
        for bad in (True, False, HUGE, -HUGE):
            self.assertFails(BadNumber, {"number": bad}, World.flat, web, bad)

    def test_the_kinds_of_what_is_returned(self):
        world = World.of_row(sample_web(), [5, 1, 3])
        self.assertIs(type(world.row), tuple)
        self.assertIs(type(world.lights), dict)
        self.assertIs(type(world.borne), list)
        self.assertIs(type(world.web), Web)


if __name__ == "__main__":
    unittest.main()
