"""Points 14 to 16 and the interface of fields.py."""
import random
import unittest

from helpers import (
    LIMIT, Case, field_by_words, hanging_by_words, joined_by_words, large_world, passes, path_world, random_caps,
    random_pairs, sample_web, sample_world, small_worlds, web_of,
)

from outshiners.faults import BadNumber, Missing, Unknown, WebsDiffer
from outshiners.fields import (
    bands, field, field_under, free_caps, groups, groups_under, hanging, is_way, meeting_lights, springs, way,
)
from outshiners.webs import Web
from outshiners.worlds import World

HUGE = LIMIT + 1
NUMBERS = (True, False, HUGE, -HUGE)
CAPS = {"a": None, "b": 4, "c": 3}
EDGES = list(range(-3, 9)) + [-LIMIT, -LIMIT + 1, LIMIT - 1, LIMIT]


def groups_by_words(world, caps, light):
    """The groups as the interface tells them."""
    parts = joined_by_words(world, light, field_by_words(world, caps, light))
    return [tuple(sorted(part)) for part in parts]


def steps_on(world, caps, light, lamp):
    """The pairs (bond, other lamp) by which a way can go on from the lamp."""
    inside = field_by_words(world, caps, light)
    found = []
    for bond, first, second, low, high in world.web.bond_rows:
        if lamp in (first, second) and {first, second} <= inside and passes(low, high, light):
            found.append((bond, second if lamp == first else first))
    return found


def ways_by_words(world, caps, light, most):
    """All ways with at most so many bonds, as pairs (way, lamp at the end)."""
    found = []
    now = [((lamp, ()), lamp) for lamp in sorted(field_by_words(world, caps, light)) if world.light(lamp) == light]
    for _ in range(most + 1):
        found.extend(now)
        now = [
            ((spring, bonds + (bond,)), after)
            for (spring, bonds), at in now for bond, after in steps_on(world, caps, light, at)
        ]
    return found


def worlds_with_caps(many=60):
    """Small worlds with any caps."""
    rng = random.Random(5)
    return [(world, random_caps(rng, world)) for world in small_worlds(many)]


class Fields(Case):
    def test_free_caps(self):
        self.assertCall(free_caps, ["world"], [sample_world()], {"a": None, "b": 4, "c": None})
        self.assertSame(free_caps(World.of_row(sample_web(), (5, 9, 3))), {"a": None, "b": 9, "c": None})
        self.assertSame(list(free_caps(World(Web([("b", 1), ("a", -LIMIT)]), {"b": 0, "a": 0}))), ["a", "b"])
        self.assertFreshDict(lambda: free_caps(sample_world()))
        for world in small_worlds():
            for lamp, cap in free_caps(world).items():
                ceiling = world.web.ceiling(lamp)
                self.assertSame(cap, None if ceiling is None else max(ceiling, world.light(lamp)))

    def test_springs(self):
        world = World.of_row(sample_web(), (5, 1, 5))
        self.assertCall(springs, ["world", "light"], [world, 5], ["a", "c"])
        self.assertSame(springs(world, 4), [])
        for bad in NUMBERS:
            self.assertFails(BadNumber, {"number": bad}, springs, world, bad)

    def test_field_under(self):
        names = ["world", "caps", "light"]
        self.assertCall(field_under, names, [sample_world(), CAPS, 3], ["b", "c"])
        self.assertCall(field_under, names, [sample_world(), {"c": None, "b": None, "a": None}, 5], ["a", "b", "c"])
        for light, wanted in [(0, []), (1, ["b"]), (4, ["b"]), (5, ["a"]), (LIMIT, ["a"]), (-LIMIT, [])]:
            self.assertSame(field_under(sample_world(), CAPS, light), wanted)

    def test_groups_under(self):
        names = ["world", "caps", "light"]
        self.assertCall(groups_under, names, [sample_world(), CAPS, 3], [("b", "c")])
        everything = {"a": None, "b": None, "c": None}
        self.assertCall(groups_under, names, [sample_world(), everything, 5], [("a", "b"), ("c",)])
        self.assertSame(groups_under(sample_world(), CAPS, 0), [])

    def test_a_spring_with_a_lower_cap_is_in_no_group(self):
        caps = {"a": 4, "b": None, "c": None}
        self.assertSame(groups_under(sample_world(), caps, 5), [("b",), ("c",)])
        self.assertSame(way(sample_world(), caps, "b", 5), None)
        self.assertSame(way(sample_world(), caps, "a", 5), None)
        self.assertSame(is_way(sample_world(), caps, "a", 5, ("a", [])), False)

    def test_all_of_small_worlds(self):
        for world, caps in worlds_with_caps():
            for light in EDGES:
                self.assertSame(field_under(world, caps, light), sorted(field_by_words(world, caps, light)))
                self.assertSame(groups_under(world, caps, light), groups_by_words(world, caps, light))

    def test_the_lights_of_a_second_world_are_caps(self):
        for first, second in random_pairs(60):
            caps = second.lights
            for light in EDGES:
                self.assertSame(field(first, second, light), field_under(first, caps, light))
                self.assertSame(groups(first, second, light), groups_under(first, caps, light))
                self.assertSame(hanging(first, second, light), sorted(hanging_by_words(first, caps, light)))

    def test_calls_with_two_worlds(self):
        first = path_world()
        second = World.of_row(first.web, (5, 5, 5, 3))
        names = ["first", "second", "light"]
        self.assertCall(field, names, [first, second, 3], ["b", "c", "d"])
        self.assertCall(groups, names, [first, second, 3], [("b", "c", "d")])
        self.assertCall(hanging, names, [first, second, 3], ["b", "c", "d"])
        self.assertCall(hanging, names, [first, second, 5], ["a", "b", "c"])
        self.assertCall(hanging, names, [first, second, 4], [])
        for call in (field, groups, hanging):
            self.assertFreshList(lambda: call(first, second, 3))

    def test_two_worlds_fail(self):
        first = path_world()
        for other in (sample_world(), first.over(first.web.with_ceiling("a", 9))):
            for call in (field, groups, hanging):
                self.assertFails(WebsDiffer, {}, call, first, other, 3)
                for bad in NUMBERS:
                    self.assertFails(BadNumber, {"number": bad}, call, first, other, bad)


class Caps(Case):
    """What is wrong with caps, in every function that takes them."""

    calls = [
        (field_under, (3,)), (groups_under, (3,)), (way, ("b", 3)), (is_way, ("b", 3, ("c", ["m"]))), (bands, ()),
        (meeting_lights, ("b", "c")),
    ]

    def test_bad_numbers(self):
        for call, more in self.calls:
            for bad in NUMBERS:
                self.assertFails(BadNumber, {"number": bad}, call, sample_world(), {**CAPS, "b": bad}, *more)
                self.assertFails(BadNumber, {"number": bad}, call, sample_world(), {"zz": bad}, *more)
            caps = {"c": HUGE, "b": False, "a": None}
            self.assertFails(BadNumber, {"number": False}, call, sample_world(), caps, *more)

    def test_unknown_and_missing(self):
        for call, more in self.calls:
            self.assertFails(Unknown, {"name": "k"}, call, sample_world(), {**CAPS, "k": 1}, *more)
            self.assertFails(Unknown, {"name": "x"}, call, sample_world(), {"z": 1, "x": None}, *more)
            self.assertFails(Missing, {"lamp": "a"}, call, sample_world(), {}, *more)
            self.assertFails(Missing, {"lamp": "b"}, call, sample_world(), {"a": 1, "c": 1}, *more)

    def test_the_light_and_the_lamp(self):
        world = sample_world()
        for bad in NUMBERS:
            for call, more in [(field_under, ()), (groups_under, ()), (way, ("b",)), (is_way, ("b",))]:
                rest = (("c", []),) if call is is_way else ()
                self.assertFails(BadNumber, {"number": bad}, call, world, CAPS, *more, bad, *rest)
                self.assertFails(BadNumber, {"number": bad}, call, world, {"z": 1}, *more, bad, *rest)
                self.assertFails(BadNumber, {"number": HUGE}, call, world, {"z": HUGE}, *more, bad, *rest)
        for bad in ("z", "k", "", "B"):
            self.assertFails(Unknown, {"name": bad}, way, world, CAPS, bad, 3)
            self.assertFails(Unknown, {"name": bad}, way, world, {}, bad, 3)
            self.assertFails(Unknown, {"name": "x"}, way, world, {"x": 1}, bad, 3)
            self.assertFails(Unknown, {"name": bad}, is_way, world, CAPS, bad, 3, ("c", ["m"]))
            self.assertFails(Unknown, {"name": bad}, meeting_lights, world, CAPS, bad, "b")
            self.assertFails(Unknown, {"name": bad}, meeting_lights, world, CAPS, "b", bad)
            self.assertFails(Unknown, {"name": bad}, meeting_lights, world, {}, bad, "zz")
            self.assertFails(Unknown, {"name": "x"}, meeting_lights, world, {"x": 1}, bad, bad)
        self.assertFails(BadNumber, {"number": True}, way, world, CAPS, "zz", True)
        self.assertFails(BadNumber, {"number": True}, meeting_lights, world, {"x": True}, "zz", "z")


class Ways(Case):
    def test_way(self):
        world = path_world()
        caps = free_caps(world)
        self.assertSame(way(world, caps, "c", 5), ("a", ["p", "q"]))
        self.assertSame(way(world, caps, "a", 5), ("a", []))
        self.assertSame(way(world, caps, "d", 1), None)
        self.assertSame(way(world, caps, "d", 3), ("b", ["q", "r"]))
        self.assertSame(way(world, caps, "d", 4), None)
        self.assertCall(way, ["world", "caps", "lamp", "light"], [world, caps, "d", 5], ("a", ["p", "q", "r"]))

    def test_ways_of_small_worlds(self):
        for world, caps in worlds_with_caps(40):
            for light in range(-1, 5):
                all_ways = ways_by_words(world, caps, light, 4)
                for lamp in world.web:
                    lengths = [len(bonds) for (_, bonds), end in all_ways if end == lamp]
                    found = way(world, caps, lamp, light)
                    if not lengths:
                        self.assertIs(found, None)
                    else:
                        self.assertEqual((type(found), type(found[1])), (tuple, list))
                        self.assertEqual(len(found[1]), min(lengths))
                        self.assertIn(((found[0], tuple(found[1])), lamp), all_ways)
                        self.assertSame(is_way(world, caps, lamp, light, found), True)
                        self.assertSame(way(world, dict(caps), lamp, light), found)

    def test_is_way_is_true_of_all_ways(self):
        for world, caps in worlds_with_caps(25):
            for light in range(0, 4):
                for found, end in ways_by_words(world, caps, light, 3):
                    for lamp in world.web:
                        self.assertSame(is_way(world, caps, lamp, light, found), lamp == end)

    def test_is_way_is_false_of_all_else(self):
        for world, caps in worlds_with_caps(25):
            names = world.web.bonds[:3] + ["zz"]
            lists = [()] + [(x,) for x in names] + [(x, y) for x in names for y in names]
            for light in range(0, 4):
                right = ways_by_words(world, caps, light, 2)
                for lamp in world.web:
                    for spring in world.web.lamps + ["zz", "", "k0"]:
                        for bonds in lists:
                            wanted = ((spring, bonds), lamp) in right
                            self.assertSame(is_way(world, caps, lamp, light, (spring, list(bonds))), wanted)

    def test_is_way_calls(self):
        world = path_world()
        values = [world, free_caps(world), "b", 3, ("b", ["q", "q"])]
        names = ["world", "caps", "lamp", "light", "found"]
        self.assertCall(is_way, names, values, True)
        self.assertCall(is_way, names, values[:4] + [("b", ["q", "p"])], False)
        # A longer list may come back to the spring, and a bond may occur more than once.
        self.assertSame(is_way(world, free_caps(world), "b", 3, ("b", ["q", "r", "r", "q"])), True)

    def test_pairs_of_another_length(self):
        world = sample_world()
        for found in [(), ("c",), (["m"],), ("c", ["m"], "c"), ("c", ["m"], ["m"]), [], ["c"], ["c", ["m"], "c"]]:
            self.assertSame(is_way(world, CAPS, "b", 3, found), False)
        self.assertSame(is_way(world, CAPS, "b", 3, ["c", ("m",)]), True)


class Bands(Case):
    def test_the_example(self):
        wanted = [
            (None, 0, []), (1, 2, [("b",)]), (3, 3, [("b", "c")]), (4, 4, [("b",), ("c",)]), (5, None, [("a",), ("c",)]),
        ]
        self.assertCall(bands, ["world", "caps"], [sample_world(), free_caps(sample_world())], wanted)
        self.assertFreshList(lambda: bands(sample_world(), CAPS))

    def test_bands_of_small_worlds(self):
        for world, caps in worlds_with_caps():
            found = bands(world, caps)
            self.assertIs(found[0][0], None)
            self.assertIs(found[-1][1], None)
            for (_, high, before), (low, _, after) in zip(found, found[1:]):
                self.assertEqual(high + 1, low)
                self.assertNotEqual(before, after)
            for light in EDGES:
                self.assertSame([row[2] for row in found if passes(*row[:2], light)], [groups_under(world, caps, light)])

    def test_one_band(self):
        world = World.flat(sample_web(), 3)
        self.assertSame(bands(world, {"a": 2, "b": 0, "c": -LIMIT}), [(None, None, [])])
        low = World.flat(Web([("a", None)]), -LIMIT)
        self.assertSame(bands(low, {"a": None}), [(None, None, [("a",)])])
        self.assertSame(bands(low, {"a": LIMIT}), [(None, None, [("a",)])])

    def test_the_ends_of_the_numbers(self):
        low = World.flat(Web([("a", None)]), -LIMIT)
        self.assertSame(bands(low, {"a": -LIMIT}), [(None, -LIMIT, [("a",)]), (-LIMIT + 1, None, [])])
        self.assertSame(bands(low, {"a": LIMIT - 1}), [(None, LIMIT - 1, [("a",)]), (LIMIT, None, [])])
        high = World.flat(Web([("a", None)]), LIMIT)
        self.assertSame(bands(high, {"a": None}), [(None, LIMIT - 1, []), (LIMIT, None, [("a",)])])
        web = Web([("a", None), ("b", None)], [("k", "a", "b", -LIMIT, LIMIT)])
        self.assertSame(bands(World.flat(web, -LIMIT), {"a": None, "b": None}), [(None, None, [("a", "b")])])

    def test_meeting_lights(self):
        world = sample_world()
        caps = {"a": None, "b": None, "c": None}
        names = ["world", "caps", "lamp", "other"]
        self.assertCall(meeting_lights, names, [world, caps, "b", "c"], [(3, 3)])
        self.assertCall(meeting_lights, names, [world, caps, "a", "b"], [(5, None)])
        self.assertCall(meeting_lights, names, [world, caps, "a", "c"], [])
        self.assertSame(meeting_lights(world, CAPS, "b", "b"), [(1, 4)])
        self.assertSame(meeting_lights(world, CAPS, "a", "a"), [(5, None)])
        self.assertFreshList(lambda: meeting_lights(world, caps, "b", "c"))

    def test_meeting_lights_at_the_ends(self):
        web = Web([("a", None), ("b", None)], [("k", "a", "b", None, -LIMIT), ("l", "a", "b", LIMIT, None)])
        world = World.flat(web, -LIMIT)
        caps = {"a": None, "b": LIMIT}
        self.assertSame(meeting_lights(world, caps, "a", "b"), [(None, -LIMIT), (LIMIT, None)])
        self.assertSame(meeting_lights(world, caps, "a", "a"), [(None, None)])
        self.assertSame(meeting_lights(world, {"a": -LIMIT, "b": None}, "b", "a"), [(None, -LIMIT)])

    def test_meeting_lights_go_on_where_the_group_changes(self):
        # At 4 c joins the group of a and b, at 6 it leaves it; at 2 and at 8 the bond of a and b is shut.
        web = web_of("abc", [("ab", None, 1), ("ab", 3, 7), ("ab", 9, None), ("bc", 4, 5), ("bc", 10, 11)])
        world = World.of_row(web, (0, 0, 0))
        caps = {"a": None, "b": None, "c": None}
        self.assertSame(meeting_lights(world, caps, "a", "b"), [(0, 1), (3, 7), (9, None)])
        self.assertSame(meeting_lights(world, caps, "a", "c"), [(4, 5), (10, 11)])
        self.assertSame(len(bands(world, caps)), 10)

    def test_meeting_lights_of_small_worlds(self):
        for world, caps in worlds_with_caps(30):
            for lamp in world.web:
                for other in world.web:
                    found = meeting_lights(world, caps, lamp, other)
                    for light in EDGES:
                        meets = any(lamp in group and other in group for group in groups_by_words(world, caps, light))
                        self.assertEqual(sum(passes(low, high, light) for low, high in found), int(meets))
                    for (_, high), (low, _) in zip(found, found[1:]):
                        self.assertLess(high + 1, low)

    def test_the_largest_world(self):
        world = large_world()
        caps = free_caps(world)
        self.assertSame(bands(world, caps)[-1], (9, None, [tuple("abcdefghij")]))
        self.assertSame(way(world, caps, "i", 9), ("a", ["k02", "k12"]))


if __name__ == "__main__":
    unittest.main()
