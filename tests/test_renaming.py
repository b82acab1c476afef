"""Points 8 and 10 and the interface of renaming.py."""
import itertools
import unittest

from helpers import LIMIT, Case, sample_web, sample_world, small_worlds, steps_by_words

from outshiners.faults import BadName, BadNumber, BadStretch, Doubled, Unknown
from outshiners.renaming import numbers_of, ranked, rename_web, rename_world, stretch
from outshiners.webs import Web
from outshiners.worlds import World

HUGE = LIMIT + 1


class Renamed(Case):
    def test_rename_web(self):
        wanted = Web([("x", None), ("b", 4), ("c", None)], [("m", "x", "b", None, None), ("k", "b", "c", 0, 3)])
        values = [sample_web(), {"a": "x"}, {"k": "m", "m": "k"}]
        self.assertCall(rename_web, ["web", "lamps", "bonds"], values, wanted)

    def test_what_has_no_key_keeps_its_name(self):
        web = sample_web()
        for lamps, bonds in itertools.product((None, {}), repeat=2):
            self.assertSame(rename_web(web, lamps, bonds), web)
            self.assertSame(rename_web(web), web)
            self.assertSame(rename_world(sample_world(), lamps, bonds), sample_world())
        self.assertSame(rename_web(web, bonds={"k": "a"}).bonds, ["a", "m"])
        self.assertSame(rename_web(web, {"b": "z"}).lamps, ["a", "c", "z"])

    def test_names_may_change_places(self):
        found = rename_world(sample_world(), {"a": "b", "b": "c", "c": "a"})
        self.assertSame(found.lights, {"a": 3, "b": 5, "c": 1})
        self.assertSame(found.web.lamp_rows, [("a", None), ("b", None), ("c", 4)])
        self.assertSame(found.web.bond_rows, [("k", "b", "c", None, None), ("m", "a", "c", 0, 3)])

    def test_a_lamp_and_a_bond_may_get_one_name(self):
        found = rename_web(sample_web(), {"a": "k"}, {"m": "k", "k": "a"})
        self.assertSame(found.lamps, ["b", "c", "k"])
        self.assertSame(found.bonds, ["a", "k"])

    def test_rename_world(self):
        web = Web([("x", None), ("b", 4), ("c", None)], [("m", "x", "b", None, None), ("k", "b", "c", 0, 3)])
        values = [sample_world(), {"a": "x"}, {"k": "m", "m": "k"}]
        self.assertCall(rename_world, ["world", "lamps", "bonds"], values, World(web, {"x": 5, "b": 1, "c": 3}))

    def test_all_renamings_of_a_world(self):
        world = sample_world()
        for names in itertools.permutations("abc"):
            lamps = dict(zip("abc", names))
            found = rename_world(world, lamps)
            self.assertEqual({lamps[lamp]: light for lamp, light in world}, found.lights)
            back = rename_world(found, {new: old for old, new in lamps.items()})
            self.assertSame(back, world)

    def test_both_fail_in_the_same_way(self):
        for call, thing in ((rename_web, sample_web()), (rename_world, sample_world())):
            for bad in ("", "A", "1a", "abcdefghi", "*"):
                self.assertFails(BadName, {"name": bad}, call, thing, {"a": bad})
                self.assertFails(BadName, {"name": bad}, call, thing, None, {"k": bad})
                self.assertFails(BadName, {"name": bad}, call, thing, {"zz": bad})
                self.assertFails(BadName, {"name": bad}, call, thing, {"a": "b"}, {"zz": bad})
            self.assertFails(BadName, {"name": "B"}, call, thing, {"c": "C", "a": "B"}, {"k": "A"})
            self.assertFails(BadName, {"name": "K"}, call, bonds={"k": "K"}, lamps={"a": "b", "q": "x"}, **named(thing))
            self.assertFails(Doubled, {"name": "b"}, call, thing, {"a": "b"})
            self.assertFails(Doubled, {"name": "a"}, call, thing, {"c": "a"})
            self.assertFails(Doubled, {"name": "x"}, call, thing, {"a": "x", "c": "x"})
            self.assertFails(Doubled, {"name": "y"}, call, thing, {"b": "y", "a": "x", "c": "y"})
            self.assertFails(Doubled, {"name": "m"}, call, thing, {}, {"k": "m"})
            self.assertFails(Doubled, {"name": "b"}, call, thing, {"a": "b"}, {"k": "m"})
            # A value under an unknown key is no new name, but its key is unknown.
            self.assertFails(Unknown, {"name": "z"}, call, thing, {"z": "b"})
            self.assertFails(Unknown, {"name": "k"}, call, thing, {"k": "x"})
            self.assertFails(Unknown, {"name": "a"}, call, thing, {}, {"a": "x"})
            self.assertFails(Unknown, {"name": "y"}, call, thing, {"z": "x", "y": "x"}, {"q": "x"})
            self.assertFails(Unknown, {"name": "q"}, call, thing, {"a": "x"}, {"q": "x"})
            self.assertFails(Unknown, {"name": ""}, call, thing, {"": "x", "0": "x"})
            self.assertFails(Unknown, {"name": "a"}, call, thing, {}, {"z": "x", "a": "x", "k": "y"})
            self.assertFails(Doubled, {"name": "m"}, call, thing, {"z": "b"}, {"k": "m"})

    def test_what_is_passed_is_not_kept(self):
        lamps, bonds = {"a": "x"}, {"k": "y"}
        found = rename_world(sample_world(), lamps, bonds)
        lamps["a"] = "z"
        bonds.clear()
        self.assertSame((found.web.lamps, found.web.bonds), (["b", "c", "x"], ["m", "y"]))
        self.assertSame(sample_world().web, sample_web())


class Stretched(Case):
    def test_numbers_of(self):
        self.assertCall(numbers_of, ["world"], [sample_world()], [0, 1, 3, 4, 5])
        self.assertFreshList(lambda: numbers_of(sample_world()))
        world = World(Web([("a", None), ("b", None)], [("k", "a", "b", None, None)]), {"a": 7, "b": 7})
        self.assertSame(numbers_of(world), [7])
        web = Web([("a", LIMIT), ("b", -LIMIT)], [("k", "a", "b", -3, 10), ("l", "a", "b", None, 9)])
        self.assertSame(numbers_of(World(web, {"a": 0, "b": 9})), [-LIMIT, -3, 0, 9, 10, LIMIT])

    def test_stretch(self):
        table = {0: -5, 1: 0, 3: 7, 4: 8, 5: LIMIT}
        web = Web([("a", None), ("b", 8), ("c", None)], [("k", "a", "b", None, None), ("m", "b", "c", -5, 7)])
        wanted = World.of_row(web, (LIMIT, 0, 7))
        self.assertCall(stretch, ["world", "table"], [sample_world(), table], wanted)
        self.assertSame(stretch(sample_world(), {**table, 2: 3, LIMIT: -LIMIT, -1: 9}), wanted)

    def test_ranked(self):
        web = Web([("a", None), ("b", 3), ("c", None)], [("k", "a", "b", None, None), ("m", "b", "c", 0, 2)])
        self.assertCall(ranked, ["world"], [sample_world()], World.of_row(web, (4, 1, 2)))

    def test_a_stretch_does_not_change_which_deeds_are_possible(self):
        for world in small_worlds():
            numbers = numbers_of(world)
            table = {number: 7 * place - 20 for place, number in enumerate(numbers)}
            for other, back in ((stretch(world, table), table), (ranked(world), dict(zip(numbers, range(99))))):
                self.assertEqual([bond for bond, _ in steps_by_words(other)], [bond for bond, _ in steps_by_words(world)])
                self.assertSame(stretch(other, {new: old for old, new in back.items()}), world)
            self.assertSame(numbers_of(ranked(world)), list(range(len(numbers))))

    def test_bad_stretches(self):
        world = sample_world()
        right = {0: 0, 1: 10, 3: 30, 4: 40, 5: 50}
        for number in right:
            table = {key: value for key, value in right.items() if key != number}
            self.assertFails(BadStretch, {"number": number}, stretch, world, table)
        self.assertFails(BadStretch, {"number": 0}, stretch, world, {})
        self.assertFails(BadStretch, {"number": 0}, stretch, world, {1: 5, 3: 4})
        self.assertFails(BadStretch, {"number": 3}, stretch, world, {**right, 3: 10})
        self.assertFails(BadStretch, {"number": 4}, stretch, world, {**right, 4: 30, 5: 0})
        self.assertFails(BadStretch, {"number": 3}, stretch, world, {**right, 3: 0})
        self.assertFails(BadStretch, {"number": 4}, stretch, world, {**right, 3: 45})
        self.assertFails(BadStretch, {"number": 1}, stretch, world, {0: LIMIT, 3: 5, 4: 6, 5: 7, 1: -LIMIT})

    def test_bad_numbers(self):
        world = sample_world()
        right = {0: 0, 1: 10, 3: 30, 4: 40, 5: 50}
        for bad in (True, False, HUGE, -HUGE):
            self.assertFails(BadNumber, {"number": bad}, stretch, world, {**right, 3: bad})
            self.assertFails(BadNumber, {"number": bad}, stretch, world, {**right, 99: bad})
            self.assertFails(BadNumber, {"number": bad}, stretch, world, {99: bad})
        for bad in (HUGE, -HUGE):
            self.assertFails(BadNumber, {"number": bad}, stretch, world, {**right, bad: 3})
            self.assertFails(BadNumber, {"number": bad}, stretch, world, {bad: True})
        self.assertFails(BadNumber, {"number": True}, stretch, world, {HUGE: 1, 5: False, 4: True})

    def test_what_is_passed_is_not_kept(self):
        table = {0: 0, 1: 10, 3: 30, 4: 40, 5: 50}
        world = sample_world()
        found = stretch(world, table)
        table.clear()
        self.assertSame(found.row, (50, 10, 30))
        self.assertSame(world.row, (5, 1, 3))


def named(thing):
    """The first argument by its name."""
    return {"web": thing} if isinstance(thing, Web) else {"world": thing}


if __name__ == "__main__":
    unittest.main()
