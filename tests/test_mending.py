"""Points 22, 23 and 37 and the interface of mending.py."""
import copy
import itertools
import unittest

from helpers import (
    LIMIT, Case, granting_by_words, large_world, lengths_by_words, path_world, random_pairs, random_wishes, sample_web,
    sample_world, subsets, web_of,
)

from outshiners.coming import comes
from outshiners.faults import BadNumber, OutOfRange, Unknown, WebsDiffer
from outshiners.mending import drops, is_mend, lifts, mend, mended
from outshiners.webs import Web
from outshiners.wishes import brightest
from outshiners.worlds import World

HUGE = LIMIT + 1
NUMBERS = (True, False, HUGE, -HUGE)


def mended_by_words(web, lamps, bonds):
    """The web after lifting and widening."""
    return Web(
        [(lamp, None if lamp in lamps else ceiling) for lamp, ceiling in web.lamp_rows],
        [row[:3] + ((None, None) if row[0] in bonds else row[3:]) for row in web.bond_rows],
    )


def comes_by_words(first, second, lamps, bonds):
    """True if, over the mended web, some history leads from first to second."""
    web = mended_by_words(first.web, lamps, bonds)
    return second.row in lengths_by_words(first.over(web))


def pairs(many=150, seed=101):
    """Pairs of worlds over one web of which the second one often needs a mend."""
    found = []
    for first, second in random_pairs(many, seed=seed, most_lamps=4, most_bonds=4):
        found.append((first, second | first if len(found) % 3 else second))
        found.append((first, World.flat(first.web, max(first.row))))
    return found


def needs_both():
    """Two worlds: c is under a ceiling, and two bonds in a row are shut."""
    web = Web([("a", None), ("b", None), ("c", 2)], [("k", "a", "b", None, 3), ("l", "a", "b", 6, None), ("m", "b", "c", 9, None)])
    return World.of_row(web, (5, 0, 0)), World.of_row(web, (5, 5, 5))


class Lifts(Case):
    def test_lifts(self):
        lifted = 0
        for first, second in pairs():
            wanted = []
            for lamp, light in first:
                ceiling = first.web.ceiling(lamp)
                if second.light(lamp) > light and ceiling is not None and second.light(lamp) > ceiling:
                    wanted.append(lamp)
            self.assertSame(lifts(first, second), wanted)
            lifted += wanted != []
        self.assertGreater(lifted, 30)

    def test_calls(self):
        first, second = needs_both()
        self.assertCall(lifts, ["first", "second"], [first, second], ["c"])
        self.assertCall(lifts, ["first", "second"], [second, second], [])
        self.assertFreshList(lambda: lifts(first, second))
        # At the ceiling, dimmer, or above it but not brighter: nothing to lift.
        web = Web([("a", 4), ("b", 4), ("c", 4), ("d", 4)])
        self.assertSame(lifts(World.of_row(web, (0, 9, 7, 3)), World.of_row(web, (4, 9, 6, 5))), ["d"])

    def test_a_mend_must_lift_exactly_these(self):
        for first, second in pairs(40, seed=102):
            every = first.web.bonds
            for lamps in subsets(first.web.lamps):
                if first.under(second) and comes_by_words(first, second, lamps, every):
                    self.assertLessEqual(set(lifts(first, second)), set(lamps))

    def test_webs_differ(self):
        first = sample_world()
        for other in (path_world(), first.over(sample_web().with_ceiling("a", 9))):
            for call, more in [(lifts, ()), (mend, ()), (is_mend, (["zz"], ["zz"]))]:
                self.assertFails(WebsDiffer, {}, call, first, other, *more)
            self.assertFails(WebsDiffer, {}, mend, first, other, most=3)


class Mended(Case):
    def test_mended(self):
        web = sample_web()
        names = ["web", "lamps", "bonds"]
        self.assertCall(mended, names, [web, [], []], web)
        self.assertCall(mended, names, [web, ["b"], []], web.with_ceiling("b", None))
        self.assertCall(mended, names, [web, ["b", "a", "b"], ["m", "k", "m"]], mended_by_words(web, "abc", "km"))
        self.assertCall(mended, names, [web, [], ["m"]], web.with_span("m", None, None))
        self.assertSame(web, sample_web())

    def test_unknown(self):
        web = sample_web()
        for bad in ("z", "k", "", "No Name"):
            self.assertFails(Unknown, {"name": bad}, mended, web, ["a", bad, "zz"], ["zz"])
        for bad in ("z", "a", "", "No Name"):
            self.assertFails(Unknown, {"name": bad}, mended, web, ["a"], ["k", bad, "zz"])
            self.assertFails(Unknown, {"name": bad}, mended, bonds=[bad], lamps=[], web=web)


class Mends(Case):
    def test_mend_over_all_choices(self):
        sizes = set()
        for first, second in pairs():
            lamps = lifts(first, second)
            able = [
                list(bonds) for size in range(3) for bonds in itertools.combinations(first.web.bonds, size)
                if comes_by_words(first, second, lamps, bonds)
            ]
            for most in (0, 1, 2):
                few = [bonds for bonds in able if len(bonds) <= most]
                fewest = min([len(bonds) for bonds in few], default=0)
                least = min([bonds for bonds in few if len(bonds) == fewest], default=None)
                wanted = None if least is None else (lamps, least)
                self.assertSame(mend(first, second, most=most), wanted)
                sizes.add(None if least is None else len(least))
            self.assertSame(mend(first, second), wanted)
        self.assertEqual(sizes, {None, 0, 1, 2})

    def test_each_mend_is_one_and_needs_all_its_items(self):
        needed = 0
        for first, second in pairs(400, seed=103):
            found = mend(first, second)
            if found is None:
                continue
            lamps, bonds = found
            self.assertSame(is_mend(first, second, lamps, bonds), True)
            self.assertSame(is_mend(first, second, lamps[::-1] * 2, first.web.bonds[::-1] * 2), True)
            for lamp in lamps:
                self.assertSame(is_mend(first, second, [other for other in lamps if other != lamp], bonds), False)
                needed += 1
            for bond in bonds:
                self.assertSame(is_mend(first, second, lamps, [other for other in bonds if other != bond]), False)
                needed += 1
        self.assertGreater(needed, 50)

    def test_is_mend_over_all_choices(self):
        for first, second in pairs(25, seed=104):
            for lamps in subsets(first.web.lamps):
                for bonds in subsets(first.web.bonds):
                    wanted = comes_by_words(first, second, lamps, bonds)
                    self.assertSame(is_mend(first, second, lamps, bonds), wanted)

    def test_calls(self):
        first, second = needs_both()
        names = ["first", "second"]
        self.assertCall(mend, names, [first, second], (["c"], ["k", "m"]))
        self.assertCall(is_mend, names + ["lamps", "bonds"], [first, second, ["c"], ["k", "m"]], True)
        self.assertCall(is_mend, names + ["lamps", "bonds"], [first, second, ["c"], ["k"]], False)
        self.assertSame(mend(first=first, second=second, most=2), (["c"], ["k", "m"]))
        for most in (0, 1):
            self.assertIs(mend(first, second, most=most), None)
        self.assertFreshList(lambda: mend(first, second)[0])
        self.assertFreshList(lambda: mend(first, second)[1])
        with self.assertRaises(TypeError):
            mend(first, second, 2)

    def test_where_it_comes_already(self):
        for first, second in pairs(60, seed=105):
            if comes(first, second):
                for most in (0, 1, 2):
                    self.assertSame(mend(first, second, most=most), ([], []))
        self.assertSame(mend(sample_world(), sample_world()), ([], []))

    def test_no_mend(self):
        first, second = needs_both()
        self.assertIs(mend(second, first), None)
        self.assertSame(is_mend(second, first, ["c"], ["k", "l", "m"]), False)
        # No widening brings a light that is not there.
        self.assertIs(mend(first, World.of_row(first.web, (5, 4, 0))), None)
        self.assertIs(mend(first, World.of_row(first.web, (6, 6, 6))), None)

    def test_unknown_names_are_no_mend(self):
        first, second = needs_both()
        for bad in ("z", "k", "", "No Name"):
            self.assertSame(is_mend(first, second, ["c", bad], ["k", "m"]), False)
        for bad in ("z", "a", "", "No Name"):
            self.assertSame(is_mend(first, second, ["c"], ["k", "m", bad]), False)
        self.assertSame(is_mend(first, first, [], ["z"]), False)
        self.assertSame(is_mend(first, first, ["c", "c", "a"], ("m", "m")), True)

    def test_most(self):
        first, second = needs_both()
        for bad in (-1, 3, LIMIT):
            wrong = {"number": bad, "low": 0, "high": 2}
            for one, two in ((first, second), (second, first), (first, first)):
                self.assertFails(OutOfRange, wrong, mend, one, two, most=bad)
        for bad in NUMBERS:
            self.assertFails(BadNumber, {"number": bad}, mend, first, second, most=bad)
            self.assertFails(BadNumber, {"number": bad}, mend, first, sample_world(), most=bad)

    def test_the_largest(self):
        first = large_world()
        web = first.web
        for bond in web.bonds:
            web = web.with_span(bond, 50, None)
        self.assertIs(mend(first.over(web), brightest(first).over(web)), None)
        second = first.with_light("b", 9).with_light("c", 9).over(web)
        self.assertSame(mend(first.over(web), second), ([], ["k00", "k01"]))


class Drops(Case):
    def test_over_all_choices(self):
        sizes = set()
        for world, wish in random_wishes(200, seed=106):
            told = sorted(wish)
            if len(told) > 1:
                wish = {**wish, told[0]: 4, told[-1]: wish[told[0]]}
            able = []
            for size in range(3):
                for lamps in itertools.combinations(told, size):
                    if granting_by_words(world, {lamp: wish[lamp] for lamp in told if lamp not in lamps}):
                        able.append(list(lamps))
            for most in (0, 1, 2):
                few = [lamps for lamps in able if len(lamps) <= most]
                fewest = min([len(lamps) for lamps in few], default=0)
                wanted = min([lamps for lamps in few if len(lamps) == fewest], default=None)
                self.assertSame(drops(world, wish, most=most), wanted)
                sizes.add(None if wanted is None else len(wanted))
            self.assertSame(drops(world, wish), wanted)
        self.assertEqual(sizes, {None, 0, 1, 2})

    def test_calls(self):
        world = sample_world()
        names = ["world", "wish"]
        self.assertCall(drops, names, [world, {"a": 4, "b": 3, "c": 5}], ["a", "c"])
        self.assertCall(drops, names, [world, {"a": 4, "b": 5, "c": 5}], None)
        for wish in (None, {}, {"b": 3}):
            self.assertCall(drops, names, [world, wish], [])
        self.assertSame(drops(wish={"c": 5, "a": 4}, most=2, world=world), ["a", "c"])
        self.assertIs(drops(world, {"c": 5, "a": 4}, most=1), None)
        self.assertSame(drops(world, {"c": 5}, most=1), ["c"])
        self.assertIs(drops(world, {"c": 5}, most=0), None)
        self.assertFreshList(lambda: drops(world, {"c": 5}))
        with self.assertRaises(TypeError):
            drops(world, {}, 2)

    def test_a_lamp_in_the_way_is_made_free(self):
        # c gets 5 only over b, which is told to stay dimmer.
        world = World.of_row(web_of("abc", ["ab", "bc"]), (5, 0, 0))
        self.assertSame(drops(world, {"b": 0, "c": 5}), ["b"])
        self.assertSame(drops(world, {"b": 0, "c": 5, "a": 4}), ["a", "b"])

    def test_wrong(self):
        world = sample_world()
        for bad in NUMBERS:
            self.assertFails(BadNumber, {"number": bad}, drops, world, {"a": bad, "z": 1}, most=-5)
            self.assertFails(BadNumber, {"number": bad}, drops, world, {"z": bad}, most=HUGE)
            self.assertFails(BadNumber, {"number": bad}, drops, world, {"z": 1}, most=bad)
        for bad in ("z", "k", "", "No Name"):
            self.assertFails(Unknown, {"name": bad}, drops, world, {bad: 1, "zz": 1}, most=3)
        for bad in (-1, 3, LIMIT):
            for wish in (None, {}, {"a": 4, "b": 5, "c": 5}):
                self.assertFails(OutOfRange, {"number": bad, "low": 0, "high": 2}, drops, world, wish, most=bad)

    def test_nothing_is_changed(self):
        world, wish = sample_world(), {"c": 5, "a": 4}
        before = copy.deepcopy((world, wish))
        drops(world, wish)
        self.assertSame((world, wish), before)

    def test_the_largest(self):
        world = large_world()
        wish = {lamp: light for lamp, light in brightest(world)}
        self.assertSame(drops(world, {**wish, "j": 50, "a": 0}), ["a", "j"])
        self.assertIs(drops(world, {**wish, "j": 50, "a": 0, "b": 51}), None)


if __name__ == "__main__":
    unittest.main()
