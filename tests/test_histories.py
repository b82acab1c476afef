"""Point 13 and the histories of the interface of deeds.py."""
import unittest

from helpers import LIMIT, Case, histories_of, path_world, sample_web, sample_world, worlds_over

from outshiners.deeds import (
    by_light, chain_to, feeders, is_history, joined, replay, rows_along, split_at, take, worlds_along,
)
from outshiners.faults import BadNumber, Broken, OutOfRange, Unknown, WebsDiffer
from outshiners.webs import Web
from outshiners.worlds import World

HUGE = LIMIT + 1
# Over path_world (5, 3, 1, 0): b gives 3 to c, c gives 3 to d, a gives 5 to b, b gives 5 to c.
LONG = ["q", "r", "p", "q"]
WHOLE = [
    (replay, ()), (worlds_along, ()), (rows_along, ()), (feeders, ()), (chain_to, ("a",)), (split_at, (0,)),
    (by_light, ()), (joined, ([],)),
]


def ring_world():
    """Three lamps in a ring and a fourth one beside it, over which many histories lead."""
    web = Web(
        [("a", None), ("b", 6), ("c", None), ("d", 4)],
        [
            ("k", "a", "b", None, None), ("l", "b", "c", 2, None), ("m", "a", "c", None, 5), ("n", "c", "d", None, None),
            ("o", "c", "d", 4, 4),
        ],
    )
    return World(web, {"a": 5, "b": 6, "c": 2, "d": 1})


def sampled_histories():
    """Pairs of a world and a history of it."""
    worlds = [path_world(), sample_world(), ring_world(), World.of_row(path_world().web, (1, 2, 4, 3))]
    return [(world, history) for world in worlds for history in histories_of(world)]


class Replayed(Case):
    def test_the_empty_history(self):
        world = path_world()
        self.assertCall(replay, ["world", "history"], [world, []], world)
        self.assertSame(worlds_along(world, ()), [world])
        self.assertSame(rows_along(world, []), [])
        self.assertSame(feeders(world, []), [])
        self.assertSame(chain_to(world, [], "a"), [])
        self.assertSame(split_at(world, [], 0), ([], world, []))
        self.assertSame(joined(world, [], ()), [])
        self.assertSame(by_light(world, ()), [])
        self.assertSame(is_history(world, world, []), True)

    def test_a_long_history(self):
        world = path_world()
        rows = [(5, 3, 1, 0), (5, 3, 3, 0), (5, 3, 3, 3), (5, 5, 3, 3), (5, 5, 5, 3)]
        worlds = [World.of_row(world.web, row) for row in rows]
        self.assertCall(replay, ["world", "history"], [world, LONG], worlds[-1])
        self.assertCall(worlds_along, ["world", "history"], [world, LONG], worlds)
        self.assertCall(rows_along, ["world", "history"], [world, LONG], [
            ("q", "b", "c", 1, 3), ("r", "c", "d", 0, 3), ("p", "a", "b", 3, 5), ("q", "b", "c", 3, 5),
        ])
        self.assertCall(feeders, ["world", "history"], [world, LONG], [None, 0, None, 2])
        self.assertSame(world.row, (5, 3, 1, 0))

    def test_a_list_that_is_handed_out_can_be_changed(self):
        world = path_world()
        for call, more in WHOLE[1:5] + WHOLE[6:]:
            self.assertFreshList(lambda: call(world, LONG, *more))
        first, _, other = split_at(world, LONG, 2)
        first.clear()
        other.clear()
        self.assertSame(split_at(world, LONG, 2)[0], ["q", "r"])
        history = list(LONG)
        joined(world, history, []).clear()
        split_at(world, history, 4)[0].clear()
        self.assertSame(history, LONG)

    def test_all_histories_of_small_worlds(self):
        for world, history in sampled_histories():
            worlds = worlds_along(world, history)
            self.assertSame(worlds[0], world)
            self.assertEqual(len(worlds), len(history) + 1)
            for place, bond in enumerate(history):
                self.assertSame(worlds[place + 1], take(worlds[place], bond))
            self.assertSame(replay(world, history), worlds[-1])
            for place, row in enumerate(rows_along(world, history)):
                bond, giver, taker, old, new = row
                self.assertEqual(bond, history[place])
                self.assertEqual(world.web.ends(bond), tuple(sorted((giver, taker))))
                self.assertEqual((old, new), (worlds[place].light(taker), worlds[place].light(giver)))
                self.assertLess(old, new)


class FailedReplays(Case):
    def test_broken(self):
        world = path_world()
        for call, more in WHOLE:
            wrong = {"place": 0, "bond": "r", "cause": "shut"}
            self.assertFails(Broken, wrong, call, world, ["r", "p"], *more)
            wrong = {"place": 2, "bond": "p", "cause": "alike"}
            self.assertFails(Broken, wrong, call, world, ("q", "p", "p", "s"), *more)
            wrong = {"place": 1, "bond": "k", "cause": "ceiling"}
            self.assertFails(Broken, wrong, call, sample_world(), ["m", "k"], *more)

    def test_broken_is_due_for_the_whole_history(self):
        world = path_world()
        wrong = {"place": 4, "bond": "q", "cause": "alike"}
        self.assertFails(Broken, wrong, split_at, world, LONG + ["q"], 1)
        self.assertFails(Broken, wrong, chain_to, world, LONG + ["q"], "c")
        self.assertFails(Broken, wrong, feeders, world, LONG + ["q", "r"])

    def test_unknown_bonds_go_ahead_of_broken(self):
        world = path_world()
        for call, more in WHOLE:
            for bad in ("a", "", "No Name"):
                self.assertFails(Unknown, {"name": bad}, call, world, ["r", "r", bad, "zz"], *more)

    def test_the_longest_lists(self):
        world = path_world()
        wrong = {"place": 1, "bond": "p", "cause": "alike"}
        for call, more in WHOLE:
            self.assertFails(Broken, wrong, call, world, ["p"] * 200, *more)
        self.assertFails(Broken, wrong, joined, world, ["p"] * 200, ["p"] * 200)
        self.assertSame(is_history(world, world, ["p"] * 200), False)


class Chains(Case):
    def test_chain_to(self):
        world = path_world()
        for lamp, wanted in [("a", []), ("b", [2]), ("c", [2, 3]), ("d", [0, 1])]:
            self.assertCall(chain_to, ["world", "history", "lamp"], [world, LONG, lamp], wanted)

    def test_feeders_of_all_histories(self):
        for world, history in sampled_histories():
            rows = rows_along(world, history)
            found = feeders(world, history)
            self.assertEqual(len(found), len(history))
            for place, feeder in enumerate(found):
                giver, light = rows[place][1], rows[place][4]
                if feeder is None:
                    self.assertEqual(world.light(giver), light)
                else:
                    self.assertIs(type(feeder), int)
                    self.assertLess(feeder, place)
                    self.assertEqual((rows[feeder][2], rows[feeder][4]), (giver, light))

    def test_chains_of_all_histories(self):
        for world, history in sampled_histories():
            rows = rows_along(world, history)
            fed_by = feeders(world, history)
            for lamp in world.web:
                chain = chain_to(world, history, lamp)
                takes = [place for place, row in enumerate(rows) if row[2] == lamp]
                self.assertEqual(chain[-1:], takes[-1:])
                self.assertEqual([fed_by[place] for place in chain], ([None] + chain)[:len(chain)])
                end = replay(world, [history[place] for place in chain])
                self.assertSame(end.light(lamp), replay(world, history).light(lamp))

    def test_chain_to_fails(self):
        world = path_world()
        self.assertFails(Unknown, {"name": "z"}, chain_to, world, LONG, "z")
        self.assertFails(Unknown, {"name": "p"}, chain_to, world, LONG, "p")
        # An unknown lamp goes ahead of a refused deed, and is read behind the history.
        self.assertFails(Unknown, {"name": ""}, chain_to, world, ["r"], "")
        self.assertFails(Unknown, {"name": "y"}, chain_to, world, ["r", "y"], "z")
        self.assertFails(Unknown, {"name": "y"}, chain_to, lamp="z", history=["r", "y"], world=world)


class Split(Case):
    def test_split_at(self):
        world = path_world()
        for place in range(5):
            wanted = (LONG[:place], replay(world, LONG[:place]), LONG[place:])
            self.assertCall(split_at, ["world", "history", "place"], [world, LONG, place], wanted)

    def test_all_histories(self):
        for world, history in sampled_histories():
            for place in range(len(history) + 1):
                first, between, other = split_at(world, history, place)
                self.assertSame((first, other), (list(history[:place]), list(history[place:])))
                self.assertSame(between, replay(world, first))

    def test_places_out_of_range(self):
        world = path_world()
        for place in (-1, 5, 200, LIMIT, -LIMIT):
            wrong = {"number": place, "low": 0, "high": 4}
            self.assertFails(OutOfRange, wrong, split_at, world, LONG, place)
        self.assertFails(OutOfRange, {"number": 1, "low": 0, "high": 0}, split_at, world, [], 1)

    def test_the_order_of_errors(self):
        world = path_world()
        # OutOfRange goes ahead of Broken, Unknown ahead of it, BadNumber ahead of both.
        self.assertFails(OutOfRange, {"number": 3, "low": 0, "high": 2}, split_at, world, ["r", "r"], 3)
        self.assertFails(Unknown, {"name": "z"}, split_at, world, ["r", "z"], 3)
        for bad in (True, False, HUGE, -HUGE):
            self.assertFails(BadNumber, {"number": bad}, split_at, world, ["r", "z"], bad)
            self.assertFails(BadNumber, {"number": bad}, split_at, world, LONG, bad)
        self.assertFails(Broken, {"place": 0, "bond": "r", "cause": "shut"}, split_at, world, ["r", "r"], 2)


class Joined(Case):
    def test_joined(self):
        world = path_world()
        for place in range(5):
            values = [world, LONG[:place], LONG[place:]]
            self.assertCall(joined, ["world", "left", "right"], values, LONG)

    def test_a_tuple_beside_a_list(self):
        self.assertSame(joined(path_world(), ("q", "r"), ["p"]), ["q", "r", "p"])

    def test_joined_fails(self):
        world = path_world()
        wrong = {"place": 3, "bond": "p", "cause": "alike"}
        self.assertFails(Broken, wrong, joined, world, ["q", "r"], ["p", "p"])
        self.assertFails(Broken, {"place": 0, "bond": "r", "cause": "shut"}, joined, world, ["r"], ["r"])
        self.assertFails(Unknown, {"name": "y"}, joined, world, ["r", "y"], ["z"])
        self.assertFails(Unknown, {"name": "z"}, joined, world, ["r"], ["z", "y"])
        self.assertFails(Unknown, {"name": "y"}, joined, right=["z"], left=["y"], world=world)


class ByLight(Case):
    def test_by_light(self):
        world = path_world()
        self.assertCall(by_light, ["world", "history"], [world, ["p", "q"]], ["p", "q"])
        self.assertCall(by_light, ["world", "history"], [world, LONG], LONG)

    def test_dimmer_lights_go_first(self):
        web = Web([(name, None) for name in "abcd"], [("k", "a", "b", None, None), ("l", "c", "d", None, None)])
        world = World(web, {"a": 9, "b": 0, "c": 2, "d": 1})
        self.assertSame(by_light(world, ["k", "l"]), ["l", "k"])
        self.assertSame(by_light(world, ["l", "k"]), ["l", "k"])
        alike = world.with_light("c", 9)
        self.assertSame(by_light(alike, ["l", "k"]), ["l", "k"])
        self.assertSame(by_light(alike, ["k", "l"]), ["k", "l"])

    def test_all_histories(self):
        for world, history in sampled_histories():
            rows = rows_along(world, history)
            lights = sorted({row[4] for row in rows})
            wanted = [row[0] for light in lights for row in rows if row[4] == light]
            found = by_light(world, history)
            self.assertSame(found, wanted)
            self.assertSame(is_history(world, replay(world, history), found), True)


class Judged(Case):
    def test_is_history(self):
        world = path_world()
        end = replay(world, LONG)
        self.assertCall(is_history, ["first", "second", "history"], [world, end, LONG], True)
        self.assertCall(is_history, ["first", "second", "history"], [world, end, LONG[:3]], False)
        self.assertCall(is_history, ["first", "second", "history"], [world, world, []], True)
        self.assertCall(is_history, ["first", "second", "history"], [world, end, []], False)
        self.assertCall(is_history, ["first", "second", "history"], [end, world, LONG], False)

    def test_refused_deeds(self):
        world = path_world()
        self.assertSame(is_history(world, world, ["r"]), False)
        self.assertSame(is_history(world, replay(world, ["p"]), ["p", "p"]), False)
        self.assertSame(is_history(world, replay(world, ["p"]), ["s", "p"]), False)
        self.assertSame(is_history(world, replay(world, LONG), LONG + ["q"]), False)

    def test_any_strings(self):
        world = path_world()
        for bad in ("a", "z", "", "No Name", "*", "abcdefghi"):
            self.assertSame(is_history(world, world, [bad]), False)
            self.assertSame(is_history(world, replay(world, ["p"]), ("p", bad)), False)
            self.assertSame(is_history(world, replay(world, ["p"]), [bad, "p"]), False)

    def test_all_pairs_of_small_worlds(self):
        worlds = worlds_over(sample_web(), (1, 3, 5))
        for first in worlds:
            for history in histories_of(first) + [("k",), ("m",), ("k", "m"), ("m", "k")]:
                ends = [second for second in worlds if is_history(first, second, history)]
                wanted = [replay(first, history)] if history in histories_of(first) else []
                self.assertSame(ends, wanted)

    def test_webs_differ(self):
        world, other = path_world(), sample_world()
        twin = world.over(world.web.with_ceiling("a", 9))
        self.assertFails(WebsDiffer, {}, is_history, world, other, [])
        self.assertFails(WebsDiffer, {}, is_history, world, twin, [])
        self.assertFails(WebsDiffer, {}, is_history, world, twin, ["no bond"])
        self.assertFails(WebsDiffer, {}, is_history, history=["r"], second=world, first=twin)
        self.assertSame(is_history(world, World.of_row(path_world().web, (5, 5, 1, 0)), ["p"]), True)


if __name__ == "__main__":
    unittest.main()
