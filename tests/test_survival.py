"""Point 24 and the interface of survival.py."""
import itertools
import unittest

from helpers import LIMIT, Case, granting_by_words, large_world, path_world, random_wishes, sample_web, sample_world

from outshiners.faults import BadNumber, Doubled, OutOfRange, Ungranted, Unknown
from outshiners.survival import (
    cannot_survive, is_survivors, may_survive, must_survive, survivors, world_without,
)
from outshiners.webs import Web
from outshiners.wishes import brightest, grant, grant_in, wish_fault
from outshiners.worlds import World

HUGE = LIMIT + 1
NUMBERS = (True, False, HUGE, -HUGE)


def sample_h():
    """The world H of the document."""
    web = Web([(lamp, None) for lamp in "pqrs"], [
        ("e", "p", "s", None, None), ("f", "p", "q", None, 5), ("g", "p", "r", None, None),
    ])
    return World.of_row(web, (1, 1, 7, 5))


def granted_wishes(many=400, **sizes):
    """Triples of a world, a wish, and all worlds that grant it."""
    found = [(world, wish, granting_by_words(world, wish)) for world, wish in random_wishes(many, **sizes)]
    return [row for row in found if row[2]]


class Survival(Case):
    def test_all_worlds_that_grant(self):
        for world, wish, worlds in granted_wishes(200):
            may = sorted({light for light in world.borne if any(light in end.row for end in worlds)})
            must = sorted({light for light in world.borne if all(light in end.row for end in worlds)})
            self.assertSame(may_survive(world, wish), may)
            self.assertSame(must_survive(world, wish), must)
            self.assertSame(cannot_survive(world, wish), [light for light in world.borne if light not in may])
            self.assertSame([light for light in must if light not in may], [])

    def test_without_a_wish_each_light_may_survive(self):
        for world, _, _ in granted_wishes(60):
            for wish in (None, {}):
                self.assertSame(may_survive(world, wish), world.borne)
                self.assertSame(cannot_survive(world, wish), [])
                self.assertSame(must_survive(world, wish), must_survive(world))
            self.assertSame(may_survive(world), world.borne)
            self.assertSame(cannot_survive(world), [])

    def test_calls(self):
        world = sample_h()
        names = ["world", "wish"]
        self.assertCall(may_survive, names, [world, {"q": 5}], [5, 7])
        self.assertCall(may_survive, names, [world, {"s": 7}], [1, 5, 7])
        self.assertCall(must_survive, names, [world, {"q": 5}], [5, 7])
        self.assertCall(must_survive, names, [world, None], [7])
        self.assertCall(cannot_survive, names, [world, {"p": 5, "q": 5}], [1])
        self.assertCall(cannot_survive, names, [world, {}], [])
        for call in (may_survive, must_survive):
            self.assertFreshList(lambda: call(world, {"q": 5}))
        self.assertFreshList(lambda: cannot_survive(world, {"p": 5, "q": 5}))

    def test_the_largest_world(self):
        world = large_world()
        self.assertSame(may_survive(world), [0, 1, 2, 7, 9])
        self.assertSame(must_survive(world), [9])
        self.assertSame(must_survive(world, {"i": 1, "g": 0}), [0, 1, 9])
        self.assertSame(cannot_survive(world, {"b": 9, "c": 9, "g": 9, "h": 9}), [])


class Without(Case):
    def test_the_brightest_of_the_worlds_without_the_light(self):
        for world, wish, worlds in granted_wishes(200):
            for light in world.borne + [99, -LIMIT, LIMIT]:
                without = [end for end in worlds if light not in end.row]
                found = world_without(world, wish, light)
                if not without:
                    self.assertIs(found, None)
                else:
                    self.assertIn(found.row, [end.row for end in without])
                    for end in without:
                        self.assertSame(end.under(found), True)

    def test_calls(self):
        world = sample_h()
        names = ["world", "wish", "light"]
        self.assertCall(world_without, names, [world, {"q": 5}, 1], World.of_row(world.web, (7, 5, 7, 7)))
        self.assertCall(world_without, names, [world, None, 7], None)
        self.assertCall(world_without, names, [world, {}, 5], World.of_row(world.web, (7, 1, 7, 7)))
        self.assertCall(world_without, names, [world, {"q": 5}, 5], None)
        for light in (0, 4, LIMIT, -LIMIT):
            self.assertSame(world_without(world, {"q": 5}, light), brightest(world, {"q": 5}))

    def test_lamps_are_lowered_again_and_again(self):
        # Without 5 the lamps b, c and d must all stay at lights below it.
        web = Web([(lamp, None) for lamp in "abcde"], [
            ("k", "a", "b", None, 4), ("l", "b", "c", None, None), ("m", "c", "d", None, None), ("n", "a", "e", 9, 9),
        ])
        world = World.of_row(web, (3, 5, 0, 1, 9))
        self.assertSame(world_without(world, None, 5), None)
        self.assertSame(world_without(world.with_light("b", 2), None, 3).row, (9, 2, 2, 2, 9))
        self.assertSame(world_without(world.with_light("b", 2), {"c": 2}, 3).row, (9, 2, 2, 2, 9))
        self.assertSame(world_without(world.with_light("b", 2), {"c": 3}, 3), None)
        self.assertSame(world_without(world.with_light("b", 2), {"b": 2, "a": 9}, 3).row, (9, 2, 2, 2, 9))


class Survivors(Case):
    def test_the_least_tuple(self):
        for world, wish, worlds in granted_wishes(120):
            for count in range(4):
                for lights in itertools.permutations(world.borne + [99], count):
                    wanted = [
                        lamps for lamps in itertools.product(world.web.lamps, repeat=count)
                        if any(all(end.light(x) == light for x, light in zip(lamps, lights)) for end in worlds)
                    ]
                    self.assertSame(survivors(world, wish, list(lights)), min(wanted, default=None))

    def test_calls(self):
        world = sample_h()
        names = ["world", "wish", "lights"]
        self.assertCall(survivors, names, [world, {"q": 5}, [5, 7]], ("p", "r"))
        self.assertCall(survivors, names, [world, {"q": 5}, [7, 5]], ("p", "q"))
        self.assertCall(survivors, names, [world, None, []], ())
        self.assertCall(survivors, names, [world, {}, [1, 5, 7]], ("p", "s", "r"))
        self.assertCall(survivors, names, [world, {"q": 5}, [4]], None)
        self.assertCall(survivors, names, [world, {"p": 7, "q": 5, "s": 7}, [1]], None)

    def test_is_survivors(self):
        world = sample_h()
        wish = {"q": 5}
        found, history = grant_in(world, {"q": 5, "p": 5, "r": 7})
        names = ["world", "wish", "lights", "lamps", "found", "history"]
        self.assertCall(is_survivors, names, [world, wish, [5, 7], ("p", "r"), found, history], True)
        self.assertCall(is_survivors, names, [world, wish, [5, 7], ("q", "r"), found, history], True)
        self.assertCall(is_survivors, names, [world, wish, [5, 7], ("r", "p"), found, history], False)
        self.assertCall(is_survivors, names, [world, wish, [], (), found, history], True)
        for lamps in ((), ("p",), ("p", "r", "r"), ("p", "z"), ("", "r"), ("p", "e"), ("p", "p"), ("r", "r")):
            self.assertSame(is_survivors(world, wish, [5, 7], lamps, found, history), False)
        self.assertSame(is_survivors(world, wish, [], ("p",), found, history), False)

    def test_is_survivors_judges_the_grant(self):
        world = sample_h()
        found, history = grant_in(world, {"q": 5, "p": 5, "r": 7})
        right = ([5, 7], ("p", "r"))
        for spoilt in (history[:-1], history + ["g"], ["zz"], history[::-1], []):
            self.assertSame(is_survivors(world, {"q": 5}, *right, found, spoilt), False)
        self.assertSame(is_survivors(world, {"q": 1}, *right, found, history), False)
        self.assertSame(is_survivors(world, {"q": 9}, *right, found, history), False)
        self.assertSame(is_survivors(world, {"q": 5}, *right, found.with_light("p", 7), history), False)
        for other in (path_world(), found.over(found.web.with_ceiling("q", 99))):
            self.assertSame(is_survivors(world, {"q": 5}, *right, other, history), False)
        self.assertSame(is_survivors(world, {"p": 0}, [], (), world, []), False)

    def test_what_is_found_is_judged_right(self):
        for world, wish, worlds in granted_wishes(60, seed=4):
            found, history = grant(world, wish)
            for count in range(4):
                for lights in itertools.permutations(world.borne, count):
                    for lamps in itertools.product(world.web.lamps, repeat=count):
                        wanted = all(found.light(lamp) == light for lamp, light in zip(lamps, lights))
                        self.assertSame(is_survivors(world, wish, lights, lamps, found, history), wanted)

    def test_the_largest_world(self):
        world = large_world()
        self.assertSame(survivors(world, None, [0, 1, 2]), ("b", "c", "d"))
        self.assertSame(survivors(world, {"i": 9}, [7, 2, 1]), ("b", "c", "e"))
        self.assertSame(survivors(world, {lamp: 9 for lamp in "bdefghi"}, [0, 1, 2]), None)


class Wrong(Case):
    calls = [(may_survive, ()), (must_survive, ()), (cannot_survive, ()), (world_without, (5,)), (survivors, ([5, 7],))]

    def all_calls(self, world):
        return self.calls + [(is_survivors, ([5, 7], ("p", "r"), world, []))]

    def test_ungranted(self):
        world = sample_h()
        for wish in ({"p": 0}, {"q": 7}, {"q": 5, "r": 9}, {"p": 1, "q": 5}):
            paper = wish_fault(world, wish)
            for call, more in self.calls:
                self.assertFails(Ungranted, {"paper": paper}, call, world, wish, *more)
            for lights, lamps in ([], ()), ([1], ("p",)):
                self.assertSame(is_survivors(world, wish, lights, lamps, world, []), False)
        self.assertFails(Ungranted, {"paper": ("dimmer", "p")}, survivors, lights=[], wish={"p": 0}, world=world)

    def test_wishes(self):
        world = sample_h()
        for call, more in self.all_calls(world):
            for bad in NUMBERS:
                self.assertFails(BadNumber, {"number": bad}, call, world, {"p": bad}, *more)
                self.assertFails(BadNumber, {"number": bad}, call, world, {"z": bad, "p": 0}, *more)
            for bad in ("z", "e", "", "P"):
                self.assertFails(Unknown, {"name": bad}, call, world, {"p": 0, bad: 1}, *more)

    def test_lights(self):
        world = sample_h()
        for bad in NUMBERS:
            self.assertFails(BadNumber, {"number": bad}, world_without, world, None, bad)
            self.assertFails(BadNumber, {"number": bad}, world_without, world, {"z": 1}, bad)
            self.assertFails(BadNumber, {"number": HUGE}, world_without, world, {"z": HUGE}, bad)
            for call, more in ((survivors, ()), (is_survivors, ((), world, []))):
                self.assertFails(BadNumber, {"number": bad}, call, world, None, [5, bad], *more)
                self.assertFails(BadNumber, {"number": bad}, call, world, {"z": 1}, [5, 5, bad, 1, 2], *more)
                self.assertFails(BadNumber, {"number": HUGE}, call, world, {"z": HUGE}, [bad], *more)

    def test_doubled_and_out_of_range(self):
        world = sample_h()
        for call, more in ((survivors, ()), (is_survivors, (("p",), world, []))):
            self.assertFails(Doubled, {"name": 7}, call, world, None, [5, 7, 7], *more)
            self.assertFails(Doubled, {"name": 5}, call, world, {"z": 0}, [5, 7, 1, 2, 5, 7], *more)
            self.assertFails(Unknown, {"name": "z"}, call, world, {"z": 0}, [5, 7, 1, 2], *more)
            wrong = {"number": 4, "low": 0, "high": 3}
            self.assertFails(OutOfRange, wrong, call, world, None, [5, 7, 1, 2], *more)
            self.assertFails(OutOfRange, wrong, call, world, {"p": 0}, (5, 7, 1, 2), *more)
            wrong = {"number": 100, "low": 0, "high": 3}
            self.assertFails(OutOfRange, wrong, call, world, None, list(range(100)), *more)

    def test_nothing_is_changed(self):
        world = World.of_row(sample_web(), sample_world().row)
        wish, lights = {"b": 3}, [3, 5]
        for call, more in self.calls[:4] + [(survivors, (lights,)), (is_survivors, (lights, ("b", "a"), world, []))]:
            first = call(world, wish, *more)
            self.assertSame(call(world, {"b": 3}, *more), first)
            self.assertSame((wish, lights, world), ({"b": 3}, [3, 5], sample_world()))


if __name__ == "__main__":
    unittest.main()
