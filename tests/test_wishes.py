"""Points 22 and 23 and the interface of wishes.py."""
import unittest

from helpers import (
    LIMIT, Case, Paper, granting_by_words, hanging_by_words, is_hung_by_words, large_world, lengths_by_words, listed,
    path_world, random_wishes, sample_web, sample_world, small_worlds, subsets, web_of,
)

from outshiners.coming import comes, is_obstacle, obstacles
from outshiners.deeds import at_rest, is_history, replay
from outshiners.faults import BadNumber, OutOfRange, TooLarge, Ungranted, Unknown
from outshiners.tables import fewest_tables, is_fewest
from outshiners.webs import Web
from outshiners.wishes import (
    brightest, brightest_light, dimmest_light, fewest_for, grant, grant_in, granted, is_fewest_grant, is_grant,
    is_wish_fault, lights_of, most_for, wish_caps, wish_counts, wish_fault, wish_faults, wish_tables,
)
from outshiners.worlds import World

HUGE = LIMIT + 1
NUMBERS = (True, False, HUGE, -HUGE)


def caps_by_words(world, wish):
    """The caps of the wish by points 15 and 22."""
    caps = {}
    for lamp, light in world:
        ceiling = world.web.ceiling(lamp)
        caps[lamp] = wish.get(lamp, None if ceiling is None else max(light, ceiling))
    return caps


def granted_wishes(many=400, **sizes):
    """Pairs of a world and a wish that some world grants."""
    return [(world, wish) for world, wish in random_wishes(many, **sizes) if granting_by_words(world, wish)]


def two_ways():
    """A world in which c can get 5 over a or over b, or 4 from d."""
    web = Web([("a", None), ("b", 5), ("c", None), ("d", None), ("e", None)], [
        ("k", "a", "e", None, None), ("l", "b", "e", None, None), ("m", "a", "c", 5, None), ("n", "b", "c", None, None),
        ("o", "c", "d", 4, 4),
    ])
    return World.of_row(web, (1, 2, 0, 4, 5))


def many_groups():
    """A world and a wish with six open groups at 5, which only the free lamp h joins to the spring a."""
    web = web_of("abcdefghi", ["ah"] + ["h" + lamp for lamp in "bcdefg"])
    return World.of_row(web, (5, 0, 0, 0, 0, 0, 0, 0, 0)), {lamp: 5 for lamp in "bcdefg"}


class Faults(Case):
    def test_wish_caps(self):
        world = sample_world()
        self.assertCall(wish_caps, ["world", "wish"], [world, {"b": 7}], {"a": None, "b": 7, "c": None})
        self.assertCall(wish_caps, ["world", "wish"], [world, None], {"a": None, "b": 4, "c": None})
        self.assertCall(wish_caps, ["world", "wish"], [world, {}], {"a": None, "b": 4, "c": None})
        self.assertCall(wish_caps, ["world", "wish"], [world, {"c": -3, "a": 4}], {"a": 4, "b": 4, "c": -3})
        self.assertFreshDict(lambda: wish_caps(world, {"b": 7}))
        for other, wish in random_wishes():
            self.assertSame(wish_caps(other, wish), caps_by_words(other, wish))

    def test_granted_exactly_if_some_world_grants(self):
        for world, wish in random_wishes(200):
            worlds = granting_by_words(world, wish)
            found = wish_faults(world, wish)
            self.assertSame(granted(world, wish), worlds != [])
            self.assertSame(found == [], worlds != [])
            self.assertSame(wish_fault(world, wish), found[0] if found else None)

    def test_each_told_lamp_is_checked_by_itself(self):
        for world, wish in random_wishes(100, seed=9):
            caps = caps_by_words(world, wish)
            wanted = {}
            for lamp, light in wish.items():
                ceiling = world.web.ceiling(lamp)
                if light < world.light(lamp):
                    wanted[lamp] = "dimmer"
                elif light > world.light(lamp) and ceiling is not None and light > ceiling:
                    wanted[lamp] = "ceiling"
                elif light > world.light(lamp) and lamp not in hanging_by_words(world, caps, light):
                    wanted[lamp] = "shade"
            found = wish_faults(world, wish)
            self.assertEqual({paper[1]: paper[0] for paper in found}, wanted)
            order = [("dimmer", "ceiling", "shade").index(paper[0]) for paper in found]
            self.assertSame([(kind, paper[1]) for kind, paper in zip(order, found)], sorted(zip(order, [p[1] for p in found])))

    def test_a_wish_that_tells_all_lamps_is_a_second_world(self):
        for world, wish in random_wishes(100):
            second = World(world.web, {**world.lights, **wish})
            self.assertSame(wish_faults(world, second.lights), obstacles(world, second))

    def test_calls(self):
        world = sample_world()
        wish = {"a": 4, "b": 5, "c": 5}
        wanted = [("dimmer", "a"), ("ceiling", "b"), ("shade", "c", ("c",))]
        self.assertCall(wish_faults, ["world", "wish"], [world, wish], wanted)
        self.assertCall(wish_fault, ["world", "wish"], [world, wish], wanted[0])
        self.assertCall(granted, ["world", "wish"], [world, wish], False)
        self.assertCall(wish_fault, ["world", "wish"], [world, {"b": 3}], None)
        self.assertCall(granted, ["world", "wish"], [world, {"b": 3}], True)
        for empty in (None, {}):
            self.assertCall(granted, ["world", "wish"], [world, empty], True)
            self.assertCall(wish_faults, ["world", "wish"], [world, empty], [])
        self.assertSame(granted(world), True)
        self.assertFreshList(lambda: wish_faults(world, wish))

    def test_papers_are_judged(self):
        for world, wish in random_wishes(60, seed=5):
            second = World(world.web, {**world.lights, **wish})
            for paper in wish_faults(world, wish):
                self.assertSame(is_wish_fault(world, wish, paper), True)
                self.assertSame(is_wish_fault(world, None, paper), False)
            for lamp in world.web:
                for word in ("dimmer", "ceiling"):
                    wanted = lamp in wish and is_obstacle(world, second, (word, lamp))
                    self.assertSame(is_wish_fault(world, wish, (word, lamp)), wanted)

    def test_shades_are_judged_with_the_caps_of_the_wish(self):
        world = two_ways()
        # With a at 1 and b at 2 no lamp brings c the light 5.
        wish = {"a": 1, "b": 2, "c": 5}
        self.assertSame(wish_faults(world, wish), [("shade", "c", ("c",))])
        self.assertSame(is_wish_fault(world, wish, ("shade", "c", ("c",))), True)
        self.assertSame(is_wish_fault(world, {"a": 1, "c": 5}, ("shade", "c", ("c",))), False)
        self.assertSame(is_wish_fault(world, {"a": 1, "b": 2}, ("shade", "c", ("c",))), False)
        self.assertSame(granted(world, {"a": 1, "c": 5}), True)

    def test_spoilt_papers(self):
        world = sample_world()
        wish = {"a": 4, "b": 5, "c": 5}
        right = [("dimmer", "a"), ("ceiling", "b"), ("shade", "c", ("c",))]
        names = ["world", "wish", "paper"]
        for paper in right:
            self.assertCall(is_wish_fault, names, [world, wish, Paper(paper)], True)
            for wrong in (paper[:-1], paper[:1], (), paper + (paper[1],), paper + (paper[-1],), ("word",) + paper[1:]):
                self.assertCall(is_wish_fault, names, [world, wish, Paper(wrong)], False)
            for lamp in ("a", "b", "c", "z", "k", "", "No Name"):
                wrong = paper[:1] + (lamp,) + paper[2:]
                self.assertSame(is_wish_fault(world, wish, wrong), wrong in right)
        for lamps in ((), ("c", "c"), ("b",), ("c", "z"), ("b", "c", "a"), ("", "c")):
            self.assertSame(is_wish_fault(world, wish, ("shade", "c", lamps)), False)

    def test_being_told_makes_no_spring(self):
        web = Web([("a", None), ("b", None)], [("k", "a", "b", None, None)])
        world = World.of_row(web, (0, 0))
        self.assertSame(wish_faults(world, {"a": 3}), [("shade", "a", ("a", "b"))])
        # A lamp that burns with the light is a spring, told or not; one that is told less is none.
        world = World.of_row(web, (3, 0))
        self.assertSame(granted(world, {"b": 3}), True)
        self.assertSame(granted(world, {"a": 3, "b": 3}), True)
        self.assertSame(wish_faults(world, {"a": 2, "b": 3}), [("dimmer", "a"), ("shade", "b", ("b",))])


class Granted(Case):
    def test_brightest(self):
        for world, wish in granted_wishes():
            found = brightest(world, wish)
            worlds = granting_by_words(world, wish)
            self.assertIn(found.row, [other.row for other in worlds])
            for other in worlds:
                self.assertSame(other.under(found), True)
            same_world, history = grant(world, wish)
            self.assertSame(same_world, found)
            self.assertIs(type(history), list)
            self.assertSame(is_history(world, found, history), True)
            self.assertSame(is_grant(world, wish, found, history), True)

    def test_without_a_wish_it_is_at_rest(self):
        for world in small_worlds():
            self.assertSame(at_rest(brightest(world)), True)
            self.assertSame(brightest(world), brightest(world, None))
            self.assertSame(brightest(world), brightest(world, {}))

    def test_calls(self):
        world = sample_world()
        wanted = World.of_row(sample_web(), (5, 3, 3))
        for wish in (None, {}, {"b": 3}, {"a": 5, "b": 3}):
            self.assertCall(brightest, ["world", "wish"], [world, wish], wanted)
            self.assertCall(grant, ["world", "wish"], [world, wish], (wanted, ["m"]))
        self.assertCall(brightest, ["world", "wish"], [world, {"b": 1}], world)
        self.assertCall(grant, ["world", "wish"], [world, {"b": 1}], (world, []))
        self.assertSame(grant(world), (wanted, ["m"]))

    def test_is_grant(self):
        world = sample_world()
        found = World.of_row(sample_web(), (5, 3, 3))
        names = ["world", "wish", "found", "history"]
        self.assertCall(is_grant, names, [world, {"b": 3}, found, ["m"]], True)
        self.assertCall(is_grant, names, [world, None, found, ["m"]], True)
        self.assertCall(is_grant, names, [world, {}, world, []], True)
        self.assertCall(is_grant, names, [world, {"b": 1}, found, ["m"]], False)
        for history in ([], ["k"], ["m", "m"], ["zz"], ["", "m"], ["a"]):
            self.assertSame(is_grant(world, {"b": 3}, found, history), False)
        self.assertSame(is_grant(world, {"b": 3}, world, []), False)
        self.assertSame(is_grant(world, {"a": 4}, found, ["m"]), False)
        for other in (path_world(), found.over(sample_web().with_ceiling("a", 9)), World.flat(Web([("a", None)]), 5)):
            self.assertSame(is_grant(world, {"b": 3}, other, ["m"]), False)
            self.assertSame(is_grant(world, None, other, []), False)

    def test_is_grant_is_what_the_words_say(self):
        for world, wish in random_wishes(60):
            worlds = granting_by_words(world, wish)
            for end in granting_by_words(world, {}):
                history = grant_in(world, end.lights)[1]
                self.assertSame(is_grant(world, wish, end, history), end in worlds)


class Lights(Case):
    def test_lights_of(self):
        for world, wish in granted_wishes(200):
            worlds = granting_by_words(world, wish)
            for lamp in world.web:
                wanted = sorted({other.light(lamp) for other in worlds})
                self.assertSame(lights_of(world, wish, lamp), wanted)
                self.assertSame(dimmest_light(world, wish, lamp), wanted[0])
                self.assertSame(brightest_light(world, wish, lamp), wanted[-1])
                for light in range(-1, 6):
                    if lamp not in wish:
                        self.assertSame(granted(world, {**wish, lamp: light}), light in wanted)

    def test_calls(self):
        world = sample_world()
        names = ["world", "wish", "lamp"]
        self.assertCall(lights_of, names, [world, None, "b"], [1, 3])
        self.assertCall(lights_of, names, [world, {"b": 3}, "b"], [3])
        self.assertCall(dimmest_light, names, [world, {}, "b"], 1)
        self.assertCall(brightest_light, names, [world, {"a": 5}, "b"], 3)
        self.assertFreshList(lambda: lights_of(world, None, "b"))


class Counted(Case):
    def test_counts_over_all_histories(self):
        for world, wish in granted_wishes(150):
            ends = granting_by_words(world, wish)
            reached = lengths_by_words(world)
            lengths = sorted(set().union(*[reached[end.row] for end in ends]))
            fewest, most = fewest_for(world, wish), most_for(world, wish)
            self.assertSame(lengths, list(range(fewest, most + 1)))
            for deeds in range(fewest, most + 1):
                found, history = grant_in(world, wish, deeds=deeds)
                self.assertSame((type(history), len(history)), (list, deeds))
                self.assertSame(is_grant(world, wish, found, history), True)
                self.assertSame(found, replay(world, history))
            self.assertSame(grant_in(world, wish), grant_in(world, wish, deeds=fewest))

    def test_wish_counts(self):
        for world, wish in granted_wishes(100, seed=12):
            caps = caps_by_words(world, wish)
            rows = wish_counts(world, wish)
            self.assertSame([row[0] for row in rows], world.borne)
            self.assertSame(fewest_for(world, wish), sum(row[1] for row in rows))
            self.assertSame(most_for(world, wish), sum(row[2] for row in rows))
            for light, fewest, most in rows:
                needed = {lamp for lamp in wish if wish[lamp] == light > world.light(lamp)}
                sizes = [
                    len(lamps) for lamps in subsets(world.web.lamps)
                    if needed <= set(lamps) and is_hung_by_words(world, caps, light, lamps)
                ]
                self.assertSame((fewest, most), (min(sizes), max(sizes)))

    def test_calls(self):
        world = two_ways()
        names = ["world", "wish"]
        rows = [(0, 0, 0), (1, 0, 0), (2, 0, 1), (4, 0, 2), (5, 2, 3)]
        self.assertCall(wish_counts, names, [world, {"c": 5}], rows)
        self.assertCall(fewest_for, names, [world, {"c": 5}], 2)
        self.assertCall(most_for, names, [world, {"c": 5}], 6)
        for wish in (None, {}):
            self.assertCall(fewest_for, names, [world, wish], 0)
            self.assertCall(most_for, names, [world, wish], 6)
        self.assertSame((fewest_for(world), most_for(world)), (0, 6))
        self.assertFreshList(lambda: wish_counts(world, {"c": 5}))

    def test_grant_in(self):
        world = two_ways()
        for deeds in range(2, 7):
            found, history = grant_in(world, {"c": 5}, deeds=deeds)
            self.assertSame(len(history), deeds)
            self.assertSame(is_grant(world, {"c": 5}, found, history), True)
        self.assertSame(grant_in(world), (world, []))
        self.assertSame(grant_in(world, wish={"c": 5}, deeds=None), grant_in(deeds=2, wish={"c": 5}, world=world))
        self.assertSame(len(grant_in(world, {"c": 5})[1]), 2)
        with self.assertRaises(TypeError):
            grant_in(world, {"c": 5}, 2)
        for deeds in (-1, 0, 1, 7, 101, LIMIT):
            wrong = {"number": deeds, "low": 2, "high": 6}
            self.assertFails(OutOfRange, wrong, grant_in, world, {"c": 5}, deeds=deeds)
        self.assertFails(OutOfRange, {"number": 7, "low": 0, "high": 6}, grant_in, world, deeds=7)

    def test_the_largest_world(self):
        world = large_world()
        wish = {"i": 9, "j": 9, "g": 7, "c": 1}
        self.assertSame(granted(world, wish), True)
        fewest, most = fewest_for(world, wish), most_for(world, wish)
        for deeds in (fewest, most, (fewest + most) // 2):
            found, history = grant_in(world, wish, deeds=deeds)
            self.assertSame((len(history), is_grant(world, wish, found, history)), (deeds, True))
        found, history = grant_in(world, wish)
        self.assertSame(is_fewest_grant(world, wish, found, history, wish_tables(world, wish)), True)
        self.assertSame(lights_of(world, wish, "d"), [1, 2, 7, 9])


class Tables(Case):
    def test_tables_show_that_no_history_is_shorter(self):
        for world, wish in granted_wishes(150):
            tables = wish_tables(world, wish)
            lights = sorted({light for lamp, light in wish.items() if light > world.light(lamp)})
            self.assertSame([light for light, _ in tables], lights)
            fewest, most = fewest_for(world, wish), most_for(world, wish)
            for deeds in range(fewest, most + 1):
                found, history = grant_in(world, wish, deeds=deeds)
                self.assertSame(is_fewest_grant(world, wish, found, history, tables), deeds == fewest)

    def test_a_wish_that_tells_all_lamps(self):
        for world, wish in random_wishes(80):
            second = brightest(world, wish) if granted(world, wish) else world
            tables = wish_tables(world, second.lights)
            self.assertSame(tables, fewest_tables(world, second))
            found, history = grant_in(world, second.lights)
            self.assertSame(is_fewest(world, second, history, tables), True)

    def test_calls(self):
        world = two_ways()
        wish = {"c": 5}
        tables = wish_tables(world, wish)
        rows = [("a", (0,), 1), ("b", (0,), 1), ("c", (0,), 0), ("e", (0,), 1)]
        self.assertCall(wish_tables, ["world", "wish"], [world, wish], [(5, rows)])
        self.assertSame(wish_tables(world), [])
        self.assertSame(wish_tables(world, {"c": 0, "e": 5}), [])
        self.assertFreshList(lambda: wish_tables(world, wish))
        found, history = grant_in(world, wish)
        names = ["world", "wish", "found", "history", "tables"]
        self.assertCall(is_fewest_grant, names, [world, wish, found, history, tables], True)
        self.assertCall(is_fewest_grant, names, [world, None, world, [], []], True)
        self.assertCall(is_fewest_grant, names, [world, wish, found, history, []], False)

    def test_spoilt(self):
        world = two_ways()
        wish = {"c": 5}
        found, history = grant_in(world, wish)
        (_, rows), = wish_tables(world, wish)
        for tables in (
            [], [(5, rows), (5, rows)], [(4, []), (5, rows)], [(5, rows), (6, [])], [(4, rows)], [(True, rows)], [()],
            [(5,)], [(5, rows, 5)], [(5, rows[1:])], [(5, rows[::-1])], [(5, [("a", (0,), 2)] + rows[1:])],
            [(5, [("a", (0,), HUGE)] + rows[1:])], [(5, [("a", (False,), 1)] + rows[1:])], [(5, [("a", (0,), 0)] + rows[1:])],
        ):
            self.assertSame(is_fewest_grant(world, wish, found, history, tables), False)
            self.assertSame(is_fewest_grant(world, wish, found, history, listed(tables)), False)
        right = [(5, rows)]
        self.assertSame(is_fewest_grant(world, wish, world, history, right), False)
        self.assertSame(is_fewest_grant(world, wish, found, history[:-1], right), False)
        self.assertSame(is_fewest_grant(world, wish, found, ["zz", *history], right), False)
        self.assertSame(is_fewest_grant(world, wish, path_world(), history, right), False)
        self.assertSame(is_fewest_grant(world, {"c": 6}, found, history, right), False)
        self.assertSame(is_fewest_grant(world, {"c": -1}, world, [], []), False)
        longer, long_history = grant_in(world, wish, deeds=3)
        self.assertSame(is_fewest_grant(world, wish, longer, long_history, right), False)

    def test_too_large(self):
        world, wish = many_groups()
        self.assertSame(granted(world, wish), True)
        self.assertFails(TooLarge, {"limit": 5}, wish_tables, world, wish)
        found, history = grant_in(world, wish)
        self.assertSame(len(history), 7)
        for tables in ([], [(5, [])], [(5, [()])]):
            self.assertSame(is_fewest_grant(world, wish, found, history, tables), False)
        worse = {**wish, "i": 1}
        self.assertFails(Ungranted, {"paper": ("shade", "i", ("i",))}, wish_tables, world, worse)
        few = {lamp: 5 for lamp in "bcdef"}
        self.assertSame(len(wish_tables(world, few)[0][1]), 8 * 31)
        found, history = grant_in(world, few)
        self.assertSame(is_fewest_grant(world, few, found, history, wish_tables(world, few)), True)


class Wrong(Case):
    calls = [
        (wish_caps, ()), (wish_faults, ()), (wish_fault, ()), (is_wish_fault, (("dimmer", "a"),)), (granted, ()),
        (brightest, ()), (grant, ()), (lights_of, ("b",)), (dimmest_light, ("b",)), (brightest_light, ("b",)),
        (wish_counts, ()), (fewest_for, ()), (most_for, ()), (grant_in, ()), (wish_tables, ()),
    ]

    def all_calls(self, world):
        judged = [(is_grant, (world, [])), (is_fewest_grant, (world, [], []))]
        return self.calls + judged

    def test_bad_numbers_and_unknown_lamps(self):
        world = sample_world()
        for call, more in self.all_calls(world):
            for bad in NUMBERS:
                self.assertFails(BadNumber, {"number": bad}, call, world, {"b": bad}, *more)
                self.assertFails(BadNumber, {"number": bad}, call, world, {"z": bad, "c": 99}, *more)
                self.assertFails(BadNumber, {"number": False}, call, world, {"z": bad, "b": False, "zz": 1}, *more)
            for bad in ("z", "k", "", "No Name"):
                self.assertFails(Unknown, {"name": bad}, call, world, {"b": 99, bad: 1}, *more)
            self.assertFails(Unknown, {"name": "d"}, call, world, {"zz": 1, "d": 1, "a": 1}, *more)

    def test_ungranted(self):
        world = sample_world()
        for wish in ({"a": 4, "b": 5, "c": 5}, {"b": 5}, {"c": 5}, {"b": 3, "c": 4}):
            paper = wish_fault(world, wish)
            for call, more in self.calls[5:]:
                self.assertFails(Ungranted, {"paper": paper}, call, world, wish, *more)
            self.assertSame(is_grant(world, wish, world, []), False)
        self.assertFails(Ungranted, {"paper": ("dimmer", "a")}, brightest, wish={"a": 4}, world=world)

    def test_the_lamp_and_the_deeds(self):
        world = sample_world()
        for call in (lights_of, dimmest_light, brightest_light):
            for bad in ("z", "k", "", "B"):
                self.assertFails(Unknown, {"name": bad}, call, world, None, bad)
                self.assertFails(Unknown, {"name": bad}, call, world, {"a": 4}, bad)
                self.assertFails(Unknown, {"name": "x"}, call, world, {"x": 4}, bad)
                self.assertFails(BadNumber, {"number": True}, call, world, {"x": True}, bad)
        for bad in NUMBERS:
            self.assertFails(BadNumber, {"number": bad}, grant_in, world, deeds=bad)
            self.assertFails(BadNumber, {"number": bad}, grant_in, world, {"zz": 4}, deeds=bad)
            self.assertFails(BadNumber, {"number": HUGE}, grant_in, world, {"zz": HUGE}, deeds=bad)
        # A range that is computed comes behind every other error.
        for deeds in (-1, 99, 101):
            self.assertFails(Ungranted, {"paper": ("dimmer", "a")}, grant_in, world, {"a": 4}, deeds=deeds)
            self.assertFails(Unknown, {"name": "zz"}, grant_in, world, {"zz": 4}, deeds=deeds)

    def test_a_wish_is_not_kept_or_changed(self):
        world = sample_world()
        wish = {"c": 3, "b": 3}
        for call, more in self.all_calls(world):
            first = call(world, wish, *more)
            self.assertSame(list(wish.items()), [("c", 3), ("b", 3)])
            self.assertSame(call(world, {"b": 3, "c": 3}, *more), first)
        self.assertSame(comes(world, brightest(world, wish)), True)


if __name__ == "__main__":
    unittest.main()
