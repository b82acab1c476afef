"""Points 17 and 18 and the interface of coming.py."""
import random
import unittest

from helpers import (
    LIMIT, Case, Paper, field_by_words, futures_by_words, hanging_by_words, joined_by_words, large_world, passes,
    path_world, random_caps, random_pairs, sample_web, sample_world, small_worlds, subsets, worlds_over,
)

from outshiners.coming import comes, history_to, is_obstacle, is_shade, obstacle, obstacles
from outshiners.deeds import is_history
from outshiners.faults import BadNumber, Missing, NotComing, Unknown, WebsDiffer
from outshiners.webs import Web
from outshiners.worlds import World

HUGE = LIMIT + 1
CAPS = {"a": None, "b": 4, "c": 3}


def is_shade_by_words(world, caps, lamp, light, lamps):
    """The words of point 18."""
    if lamp not in lamps or any(world.light(inner) == light for inner in lamps):
        return False
    for _, first, second, low, high in world.web.bond_rows:
        for inner, outer in ((first, second), (second, first)):
            if inner in lamps and outer not in lamps and passes(low, high, light):
                if world.light(outer) <= light and not (caps[outer] is not None and caps[outer] < light):
                    return False
    return True


def obstacles_by_words(first, second):
    """The words of the interface."""
    dimmer = [("dimmer", lamp) for lamp in first.web if second.light(lamp) < first.light(lamp)]
    ceiling = []
    shade = []
    for lamp in first.web:
        light = second.light(lamp)
        if light > first.light(lamp):
            if first.web.ceiling(lamp) is not None and light > first.web.ceiling(lamp):
                ceiling.append(("ceiling", lamp))
            elif lamp not in hanging_by_words(first, second.lights, light):
                parts = joined_by_words(first, light, field_by_words(first, second.lights, light))
                shade.append(("shade", lamp, tuple(sorted(next(part for part in parts if lamp in part)))))
    return dimmer + ceiling + shade


def pairs_of_worlds():
    """Pairs of worlds over one web, those that come of one another and others."""
    pairs = random_pairs(120)
    for first in worlds_over(sample_web(), (1, 3, 5)):
        pairs.extend((first, second) for second in worlds_over(sample_web(), (1, 3, 5)))
    return pairs


class Comes(Case):
    def test_comes_is_what_histories_reach(self):
        for world in small_worlds(40, most_lamps=4):
            rows = [future.row for future in futures_by_words(world)]
            lights = sorted(set(world.row)) + [7]
            for other in worlds_over(world.web, lights):
                self.assertSame(comes(world, other), other.row in rows)

    def test_no_obstacle_exactly_if_it_comes(self):
        for first, second in pairs_of_worlds():
            found = obstacles(first, second)
            self.assertSame(found, obstacles_by_words(first, second))
            self.assertSame(comes(first, second), found == [])
            self.assertSame(obstacle(first, second), found[0] if found else None)

    def test_history_to(self):
        for first, second in pairs_of_worlds():
            paper = obstacle(first, second)
            if paper is None:
                found = history_to(first, second)
                self.assertIs(type(found), list)
                self.assertSame(is_history(first, second, found), True)
                self.assertSame(history_to(first, second), found)
            else:
                self.assertFails(NotComing, {"paper": paper}, history_to, first, second)

    def test_calls(self):
        first = sample_world()
        names = ["first", "second"]
        second = World.of_row(first.web, (5, 3, 3))
        self.assertCall(comes, names, [first, second], True)
        self.assertCall(obstacles, names, [first, second], [])
        self.assertCall(obstacle, names, [first, second], None)
        self.assertCall(history_to, names, [first, second], ["m"])
        self.assertCall(history_to, names, [first, first], [])
        self.assertCall(comes, names, [second, first], False)
        wrong = World.of_row(first.web, (4, 5, 5))
        wanted = [("dimmer", "a"), ("ceiling", "b"), ("shade", "c", ("c",))]
        self.assertCall(obstacles, names, [first, wrong], wanted)
        self.assertCall(obstacle, names, [first, wrong], wanted[0])
        self.assertFreshList(lambda: obstacles(first, wrong))
        self.assertFreshList(lambda: history_to(first, second))
        self.assertFails(NotComing, {"paper": ("dimmer", "a")}, history_to, second=wrong, first=first)

    def test_each_kind_is_in_name_order(self):
        web = Web([(lamp, 3) for lamp in "abcdef"], [("k", "a", "b", None, None)])
        first = World.flat(web, 2)
        second = World.of_row(web, (3, 1, 4, 1, 3, 4))
        self.assertSame(obstacles(first, second), [
            ("dimmer", "b"), ("dimmer", "d"), ("ceiling", "c"), ("ceiling", "f"), ("shade", "a", ("a",)),
            ("shade", "e", ("e",)),
        ])

    def test_a_lamp_may_start_above_its_ceiling(self):
        web = Web([("a", 1), ("b", 1)], [("k", "a", "b", None, None)])
        self.assertSame(comes(World.of_row(web, (5, 0)), World.of_row(web, (5, 0))), True)
        self.assertSame(obstacle(World.of_row(web, (5, 0)), World.of_row(web, (5, 5))), ("ceiling", "b"))
        self.assertSame(obstacle(World.of_row(web, (5, 2)), World.of_row(web, (5, 5))), ("ceiling", "b"))

    def test_several_lights_in_turn(self):
        # b takes 3 and gives it on to c before it takes 5, which c must not take.
        web = Web([("a", None), ("b", None), ("c", None), ("d", None)], [
            ("k", "a", "b", None, None), ("l", "b", "c", None, None), ("m", "b", "d", None, None),
        ])
        first = World.of_row(web, (5, 0, 0, 3))
        second = World.of_row(web, (5, 5, 3, 3))
        self.assertSame(comes(first, second), True)
        self.assertSame(is_history(first, second, history_to(first, second)), True)

    def test_the_ends_of_the_numbers(self):
        web = Web([("a", None), ("b", LIMIT), ("c", -LIMIT)], [("k", "a", "b", LIMIT, None), ("l", "b", "c", None, None)])
        first = World.of_row(web, (LIMIT, -LIMIT, -LIMIT))
        self.assertSame(history_to(first, World.of_row(web, (LIMIT, LIMIT, -LIMIT))), ["k"])
        self.assertSame(obstacle(first, World.flat(web, LIMIT)), ("ceiling", "c"))
        wanted = ("shade", "b", ("b",))
        self.assertSame(obstacle(first, World.of_row(web, (LIMIT, LIMIT - 1, -LIMIT))), wanted)
        self.assertSame(is_obstacle(first, World.of_row(web, (LIMIT, LIMIT - 1, -LIMIT)), wanted), True)

    def test_over_a_lamp_that_ends_brighter(self):
        first = path_world()
        second = World.of_row(first.web, (5, 5, 3, 3))
        self.assertSame(comes(first, second), True)

    def test_webs_differ(self):
        first = sample_world()
        for other in (path_world(), first.over(first.web.with_span("m", 0, 4))):
            for call in (comes, obstacles, obstacle, history_to):
                self.assertFails(WebsDiffer, {}, call, first, other)
                self.assertFails(WebsDiffer, {}, call, other, first)
            self.assertFails(WebsDiffer, {}, is_obstacle, first, other, ())
            self.assertFails(WebsDiffer, {}, is_obstacle, first, other, ("dimmer", "a"))

    def test_the_largest_world(self):
        world = large_world()
        second = World.of_row(world.web, (9, 9, 9, 9, 9, 7, 9, 9, 9, 9))
        self.assertSame(is_history(world, second, history_to(world, second)), True)
        self.assertSame(obstacle(world, World.flat(world.web, 9).with_light("i", 8)), ("shade", "i", tuple("bcdefghij")))


class Papers(Case):
    def test_obstacles_are_judged_right(self):
        for first, second in pairs_of_worlds():
            for paper in obstacles(first, second):
                self.assertSame(is_obstacle(first, second, paper), True)
                self.assertSame(is_obstacle(first, first, paper), False)
                self.assertSame(comes(first, second), False)

    def test_is_obstacle_is_what_the_words_say(self):
        for first, second in random_pairs(60, seed=8):
            caps = second.lights
            for lamp in first.web.lamps + ["z", "k0"]:
                known = lamp in first.web
                old, new = (first.light(lamp), second.light(lamp)) if known else (0, 0)
                ceiling = first.web.ceiling(lamp) if known else None
                self.assertSame(is_obstacle(first, second, ("dimmer", lamp)), new < old)
                above = new > old and ceiling is not None and new > ceiling
                self.assertSame(is_obstacle(first, second, ("ceiling", lamp)), above)
                for lamps in subsets(first.web.lamps):
                    wanted = known and new > old and is_shade_by_words(first, caps, lamp, new, lamps)
                    self.assertSame(is_obstacle(first, second, ("shade", lamp, tuple(lamps))), wanted)

    def test_the_lamps_of_a_shade_may_be_more_than_the_group(self):
        web = Web([("a", None), ("b", None), ("c", None)], [("k", "a", "b", 9, None)])
        first, second = World.flat(web, 0), World.of_row(web, (3, 0, 0))
        for lamps in (("a",), ("a", "b"), ("a", "c"), ("a", "b", "c")):
            self.assertSame(is_obstacle(first, second, ("shade", "a", lamps)), True)

    def test_a_shade_does_not_ask_for_the_ceiling(self):
        web = Web([("a", 2), ("b", None)])
        first, second = World.flat(web, 0), World.of_row(web, (3, 0))
        self.assertSame(is_obstacle(first, second, ("ceiling", "a")), True)
        self.assertSame(is_obstacle(first, second, ("shade", "a", ("a",))), True)
        self.assertSame(obstacles(first, second), [("ceiling", "a")])

    def test_spoilt_papers(self):
        first = sample_world()
        second = World.of_row(first.web, (4, 5, 5))
        right = [("dimmer", "a"), ("ceiling", "b"), ("shade", "c", ("c",))]
        for paper in right:
            self.assertCall(is_obstacle, ["first", "second", "paper"], [first, second, Paper(paper)], True)
            for wrong in (paper[:-1], paper[:1], paper + (paper[1],), paper + (paper[-1],), ("Dimmer",) + paper[1:]):
                self.assertCall(is_obstacle, ["first", "second", "paper"], [first, second, Paper(wrong)], False)
            for lamp in ("a", "b", "c", "z", "k", "", "No Name"):
                wrong = paper[:1] + (lamp,) + paper[2:]
                self.assertSame(is_obstacle(first, second, wrong), wrong in right)
        for paper in (
            (), ("",), ("shade",), ("dimmer",), ("dimmer", "a", "a"), ("ceiling", "a"), ("dimmer", "b"),
            ("word", "a"), ("a", "dimmer"), ("shade", "c", ()), ("shade", "c", ("a", "c")), ("shade", "c", ("c", "c")),
            ("shade", "c", ("b",)), ("shade", "c", ("c", "z")), ("shade", "c", ("", "c")), ("shade", "c", ("c",), ("c",)),
            ("shade", "c", ("c",), "c"), ("shade", "a", ("a",)), ("shade", "z", ("z",)), ("shade", ("c",)),
        ):
            self.assertSame(is_obstacle(first, second, paper), False)

    def test_shades_out_of_order(self):
        web = Web([("a", None), ("b", None), ("c", None)], [("k", "a", "b", None, None)])
        first, second = World.flat(web, 0), World.of_row(web, (3, 3, 0))
        for lamps, wanted in [
            (("a", "b"), True), (("b", "a"), False), (("a", "a", "b"), False), (("a", "b", "b"), False), (("a",), False),
            (("b",), False), (("a", "b", "c"), True), (("c", "a", "b"), False), (("a", "b", "k"), False), ((), False),
        ]:
            self.assertSame(is_obstacle(first, second, ("shade", "a", lamps)), wanted)


class Shades(Case):
    def test_is_shade_is_what_the_words_say(self):
        rng = random.Random(4)
        for world in small_worlds(40):
            caps = random_caps(rng, world)
            for lamp in world.web:
                for light in (-1, 0, 1, 2, 3, 4):
                    for lamps in subsets(world.web.lamps):
                        wanted = is_shade_by_words(world, caps, lamp, light, lamps)
                        self.assertSame(is_shade(world, caps, lamp, light, lamps), wanted)

    def test_calls(self):
        world = sample_world()
        names = ["world", "caps", "lamp", "light", "lamps"]
        self.assertCall(is_shade, names, [world, CAPS, "b", 4, ["b"]], True)
        self.assertCall(is_shade, names, [world, CAPS, "b", 3, ["b"]], False)
        # The lamp may be outside of the field, but it must not burn with the light.
        self.assertSame(is_shade(world, CAPS, "a", 2, ["a"]), False)
        self.assertSame(is_shade(world, CAPS, "a", 4, ["a", "b"]), True)
        self.assertSame(is_shade(world, CAPS, "a", 5, ["a"]), False)
        self.assertSame(is_shade(world, {"a": 0, "b": 4, "c": 3}, "a", 5, ["a"]), False)

    def test_spoilt_lamps(self):
        world = sample_world()
        for lamps in ([], ["a"], ["c"], ["b", "b"], ["b", "a"], ["b", "z"], ["", "b"], ["b", "k"], ["a", "b", "c", "d"]):
            self.assertSame(is_shade(world, CAPS, "b", 4, lamps), False)

    def test_fails(self):
        world = sample_world()
        for bad in (True, False, HUGE, -HUGE):
            self.assertFails(BadNumber, {"number": bad}, is_shade, world, CAPS, "b", bad, ["b"])
            self.assertFails(BadNumber, {"number": bad}, is_shade, world, {**CAPS, "b": bad}, "b", 4, ["b"])
            self.assertFails(BadNumber, {"number": HUGE}, is_shade, world, {"z": HUGE}, "zz", bad, [])
        self.assertFails(Unknown, {"name": "zz"}, is_shade, world, CAPS, "zz", 4, ["b"])
        self.assertFails(Unknown, {"name": "z"}, is_shade, world, {"z": 1}, "zz", 4, ["b"])
        self.assertFails(Missing, {"lamp": "a"}, is_shade, world, {"b": 1}, "b", 4, [])
        self.assertFails(BadNumber, {"number": True}, is_shade, world, {"z": 1}, "zz", True, ["b"])


if __name__ == "__main__":
    unittest.main()
