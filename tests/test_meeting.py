"""Points 25 and 26 and the interface of meeting.py."""
import itertools
import random
import unittest

from helpers import (
    LIMIT, Case, Paper, futures_by_words, large_world, listed, passes, path_world, random_pair, sample_web,
    sample_world, small_worlds, subsets, tupled, web_of,
)

from outshiners.coming import comes
from outshiners.deeds import is_history
from outshiners.faults import BadNumber, TooLarge, Unknown, WebsDiffer
from outshiners.meeting import common_future, cuts, is_cuts, meet, pasts
from outshiners.worlds import World

HUGE = LIMIT + 1
CUTS = [("b", 5, 1, ("ceiling",)), ("b", 4, 1, ("shade", ("b",))), ("b", 3, 2, ("dimmer",)), ("b", 1, 2, ("dimmer",))]


def second_sample():
    """The world U of the document."""
    return World.of_row(sample_web(), (5, 4, 3))


def pairs_of_worlds(many=250, seed=11):
    """Pairs of worlds over one web, some of them with a common past."""
    rng = random.Random(seed)
    pairs = []
    for world in small_worlds(many, seed=seed):
        first, second = random_pair(rng, world), random_pair(rng, world)
        pairs.append((first, second))
    return pairs


def common_by_words(first, second):
    """All common futures, in the order of their rows."""
    rows = [future.row for future in futures_by_words(second)]
    return [future for future in futures_by_words(first) if future.row in rows]


def is_row_by_words(first, second, sets, row):
    """The words of point 26 about a row with items of the told kinds."""
    lamp, light, side, paper = row
    if lamp not in sets or type(light) is not int or light not in sets[lamp] or type(side) is not int or side not in (1, 2):
        return False
    world = first if side == 1 else second
    if paper == ("dimmer",):
        return light < world.light(lamp)
    ceiling = world.web.ceiling(lamp)
    if paper == ("ceiling",):
        return light > world.light(lamp) and ceiling is not None and light > ceiling
    if len(paper) != 2 or paper[0] != "shade" or light <= world.light(lamp):
        return False
    lamps = paper[1]
    if list(lamps) != sorted(set(lamps)) or lamp not in lamps or not set(lamps) <= set(world.web):
        return False
    if any(world.light(inner) == light for inner in lamps):
        return False
    for _, one, two, low, high in world.web.bond_rows:
        for inner, outer in ((one, two), (two, one)):
            if inner in lamps and outer not in lamps and passes(low, high, light) and world.light(outer) <= light:
                if sets[outer] and max(sets[outer]) >= light:
                    return False
    return True


def is_cuts_by_words(first, second, rows):
    """The words of point 26."""
    sets = {lamp: sorted(set(first.row + second.row)) for lamp in first.web}
    for row in rows:
        if len(row) != 4 or not is_row_by_words(first, second, sets, row):
            return False
        sets[row[0]].remove(row[1])
    return any(not lights for lights in sets.values())


def spoilt_rows(first, second, row):
    """Rows that have one other item than the row, or one too few or too many."""
    lamp, light, side, paper = row
    for other in first.web.lamps + ["z", "", "No Name"]:
        yield (other, light, side, paper)
    for other in sorted(set(first.row + second.row)) + [99, -LIMIT, HUGE, True, False]:
        yield (lamp, other, side, paper)
    for other in (0, 1, 2, 3, -1, True, False, HUGE):
        yield (lamp, light, other, paper)
    papers = [(), ("",), ("word",), ("dimmer",), ("ceiling",), ("shade",), ("dimmer", "dimmer"), ("ceiling", "a")]
    papers += [("shade", tuple(lamps)) for lamps in subsets(first.web.lamps)]
    papers += [("shade", (lamp, lamp)), ("shade", (lamp, "z")), ("shade", ("", lamp)), ("shade", (lamp,), (lamp,))]
    papers += [("shade", (lamp,), "shade"), ("Shade", (lamp,)), ("dimmer", (lamp,)), ("ceiling", (lamp,))]
    for other in papers:
        yield (lamp, light, side, other)
    yield from ((), (lamp,), (lamp, light), (lamp, light, side), row + (side,), row + (lamp,), row + (paper,))


class Meeting(Case):
    def test_the_futures_of_both(self):
        met = 0
        for first, second in pairs_of_worlds():
            found = common_future(first, second)
            worlds = common_by_words(first, second)
            if not worlds:
                self.assertIs(found, None)
                self.assertIs(meet(first, second), None)
                continue
            met += 1
            self.assertIn(found.row, [world.row for world in worlds])
            for world in worlds:
                self.assertSame(world.under(found), True)
            same_world, left, right = meet(first, second)
            self.assertSame(same_world, found)
            self.assertSame((type(left), type(right)), (list, list))
            self.assertSame(is_history(first, found, left), True)
            self.assertSame(is_history(second, found, right), True)
            self.assertIs(cuts(first, second), None)
        self.assertGreater(met, 50)

    def test_calls(self):
        first, second = sample_world(), second_sample()
        names = ["first", "second"]
        self.assertCall(common_future, names, [first, second], None)
        self.assertCall(meet, names, [first, second], None)
        third = World.of_row(sample_web(), (5, 3, 3))
        self.assertCall(common_future, names, [first, third], third)
        self.assertCall(meet, names, [first, third], (third, ["m"], []))
        self.assertCall(meet, names, [third, first], (third, [], ["m"]))
        self.assertCall(meet, names, [first, first], (third, ["m"], ["m"]))

    def test_webs_differ(self):
        first = sample_world()
        for other in (path_world(), first.over(first.web.with_ceiling("a", 99))):
            for call in (common_future, meet, cuts):
                self.assertFails(WebsDiffer, {}, call, first, other)
                self.assertFails(WebsDiffer, {}, call, second=first, first=other)
            self.assertFails(WebsDiffer, {}, is_cuts, first, other, [])
            self.assertFails(WebsDiffer, {}, is_cuts, first, other, [("zz", True, 3, ())])

    def test_the_largest_worlds(self):
        world = large_world()
        second = World.of_row(world.web, (8, 0, 0, 9, 0, 7, 0, 0, 1, 2))
        found = common_future(world, second)
        self.assertSame((comes(world, found), comes(second, found)), (True, True))
        apart = World.of_row(world.web, (10, 0, 0, 9, 0, 7, 0, 0, 1, 2))
        self.assertIs(common_future(world, apart), None)
        self.assertSame(is_cuts(world, apart, cuts(world, apart)), True)


class Cuts(Case):
    def test_the_example(self):
        first, second = sample_world(), second_sample()
        papers = [(lamp, light, side, Paper(paper)) for lamp, light, side, paper in CUTS]
        names = ["first", "second", "rows"]
        self.assertCall(is_cuts, names, [first, second, papers], True)
        self.assertCall(is_cuts, names, [first, second, papers[:-1]], False)
        self.assertSame(is_cuts(first, second, [list(row) for row in CUTS]), True)
        self.assertFreshList(lambda: cuts(first, second))

    def test_cuts_are_right(self):
        apart = 0
        for first, second in pairs_of_worlds():
            found = cuts(first, second)
            if found is not None:
                apart += 1
                self.assertIs(type(found), list)
                for row in found:
                    self.assertSame([type(item) for item in row], [str, int, int, tuple])
                    self.assertSame([type(item) for item in row[3]], [str, tuple][:len(row[3])])
                self.assertSame(is_cuts_by_words(first, second, found), True)
                self.assertSame(is_cuts(first, second, found), True)
                self.assertSame(common_by_words(first, second), [])
                self.assertSame(cuts(first, second), found)
        self.assertGreater(apart, 50)

    def test_a_right_list_shows_that_there_is_no_common_future(self):
        rng = random.Random(21)
        shown = 0
        for first, second in pairs_of_worlds(60, seed=13):
            # Any rows that the words allow, one after another, as long as there are such rows.
            sets = {lamp: sorted(set(first.row + second.row)) for lamp in first.web}
            rows = []
            for _ in range(60):
                papers = [("dimmer",), ("ceiling",)] + [("shade", tuple(lamps)) for lamps in subsets(first.web.lamps)]
                able = [
                    (lamp, light, side, paper)
                    for lamp, lights in sets.items() for light in lights for side in (1, 2) for paper in papers
                    if is_row_by_words(first, second, sets, (lamp, light, side, paper))
                ]
                if not able:
                    break
                rows.append(rng.choice(able))
                sets[rows[-1][0]].remove(rows[-1][1])
                ended = any(not lights for lights in sets.values())
                self.assertSame(is_cuts(first, second, rows), ended)
                shown += ended
            if any(not lights for lights in sets.values()):
                self.assertSame(common_by_words(first, second), [])
                self.assertIsNot(cuts(first, second), None)
        self.assertGreater(shown, 20)

    def test_spoilt_at_one_place(self):
        for first, second in pairs_of_worlds(40, seed=17):
            rows = cuts(first, second)
            if rows is None:
                continue
            for place, row in enumerate(rows):
                for other in spoilt_rows(first, second, row):
                    spoilt = rows[:place] + [other] + rows[place + 1:]
                    wanted = is_cuts_by_words(first, second, spoilt)
                    self.assertSame(is_cuts(first, second, spoilt), wanted)
                    if len(other) == 4:
                        self.assertSame(is_cuts(first, second, [list(row) for row in spoilt]), wanted)
                for spoilt in (rows[:place], rows[:place] + rows[place + 1:], rows[:place] + [row] + rows[place:]):
                    self.assertSame(is_cuts(first, second, spoilt), is_cuts_by_words(first, second, spoilt))
                self.assertSame(is_cuts(first, second, rows[:place] + [row] + rows[place:]), False)

    def test_no_rows(self):
        self.assertSame(is_cuts(sample_world(), second_sample(), []), False)
        self.assertSame(is_cuts(sample_world(), sample_world(), ()), False)

    def test_rows_behind_an_empty_set(self):
        first, second = sample_world(), second_sample()
        for row, wanted in [
            (("a", 1, 1, ("dimmer",)), True), (("c", 5, 2, ("shade", ("c",))), True), (("b", 1, 2, ("dimmer",)), False),
            (("a", 5, 1, ("dimmer",)), False), (("a", 1, 0, ("dimmer",)), False), (("a", 1, 3, ("dimmer",)), False),
            (("a", 2, 1, ("dimmer",)), False), (("z", 1, 1, ("dimmer",)), False), (("a", 1, 1, ()), False), ((), False),
        ]:
            self.assertSame(is_cuts(first, second, CUTS + [row]), wanted)
            self.assertSame(is_cuts(first, second, tupled(CUTS + [row])), wanted)

    def test_a_lamp_without_a_top_is_below_every_light(self):
        # When b has no light left it does not bring c the 5 of a, so that c alone is a shade.
        first = World.of_row(web_of("abc", ["ab", "bc"]), (5, 0, 0))
        second = World.of_row(first.web, (5, 6, 0))
        rows = [("b", 0, 2, ("dimmer",)), ("b", 5, 2, ("dimmer",)), ("b", 6, 1, ("shade", ("a", "b", "c")))]
        self.assertSame(is_cuts(first, second, rows), True)
        self.assertSame(is_cuts(first, second, rows + [("c", 5, 1, ("shade", ("c",)))]), True)
        self.assertSame(is_cuts(first, second, rows[:2] + [("c", 5, 1, ("shade", ("c",)))] + rows[2:]), False)

    def test_no_top_is_below_the_least_number_too(self):
        first = World.of_row(web_of("abc", ["ab", "bc"]), (1 - LIMIT, -LIMIT, -LIMIT))
        second = World.of_row(first.web, (1 - LIMIT, 2 - LIMIT, -LIMIT))
        rows = [
            ("b", -LIMIT, 2, ("dimmer",)), ("b", 1 - LIMIT, 2, ("dimmer",)),
            ("b", 2 - LIMIT, 1, ("shade", ("a", "b", "c"))), ("c", 1 - LIMIT, 1, ("shade", ("c",))),
        ]
        for many in range(5):
            self.assertSame(is_cuts(first, second, rows[:many]), many >= 3)
        self.assertSame(is_cuts(first, second, rows + [("a", -LIMIT, 1, ("dimmer",))]), True)


class Pasts(Case):
    def test_all_candidates(self):
        rng = random.Random(31)
        for world in small_worlds(60, seed=19):
            for _ in range(4):
                lamps = rng.sample(world.web.lamps, rng.randint(0, len(world.web.lamps)))
                choices = {lamp: [rng.randint(-1, 4) for _ in range(rng.randint(0, 3))] for lamp in lamps}
                lists = [choices.get(lamp, [light]) for lamp, light in world]
                rows = sorted(set(itertools.product(*lists)))
                candidates = [World.of_row(world.web, row) for row in rows]
                if len(rows) > 64:
                    self.assertFails(TooLarge, {"limit": 64}, pasts, world, choices)
                    continue
                wanted = [past for past in candidates if world.row in [end.row for end in futures_by_words(past)]]
                self.assertSame(pasts(world, choices), wanted)

    def test_calls(self):
        world = World.of_row(sample_web(), (5, 3, 3))
        past = [World.of_row(sample_web(), row) for row in ((5, 1, 3), (5, 2, 3), (5, 3, 3))]
        names = ["world", "choices"]
        self.assertCall(pasts, names, [world, {"b": [3, 1, 2, 1, 9], "a": [5]}], past)
        self.assertCall(pasts, names, [world, {}], [world])
        self.assertCall(pasts, names, [world, {"a": [9]}], [])
        self.assertFreshList(lambda: pasts(world, {"b": [1]}))
        choices = {"b": [1, 2], "a": [5, 5]}
        pasts(world, choices)
        self.assertSame(choices, {"b": [1, 2], "a": [5, 5]})

    def test_candidates_are_ordered_by_their_rows(self):
        world = World.flat(web_of("ab", ["ab"]), 10 ** 6)
        numbers = [1000, -1, 10 ** 6, 17, -10 ** 9]
        found = pasts(world, {"b": numbers, "a": [10 ** 6, 3]})
        rows = [(3, 10 ** 6)] + [(10 ** 6, number) for number in sorted(numbers)]
        self.assertSame([past.row for past in found], rows)

    def test_empty_lists(self):
        world = large_world()
        long = list(range(100))
        self.assertSame(pasts(world, {"a": []}), [])
        self.assertSame(pasts(world, {"j": [], **{lamp: long for lamp in "abcdefghi"}}), [])
        self.assertSame(pasts(world, {"a": [], **{lamp: long for lamp in "bcdefghij"}}), [])

    def test_too_large(self):
        world = World.flat(web_of("abcdefghij", []), 0)
        for lamps in ("abcdef", "efghij"):
            found = pasts(world, {lamp: [0, -1] for lamp in lamps})
            self.assertSame(found, [world])
        self.assertFails(TooLarge, {"limit": 64}, pasts, world, {**{lamp: [0, -1] for lamp in "abcdef"}, "g": [0, 1]})
        self.assertSame(len(pasts(world, {"a": list(range(64))})), 1)
        self.assertFails(TooLarge, {"limit": 64}, pasts, world, {"a": list(range(65))})
        self.assertFails(TooLarge, {"limit": 64}, pasts, world, {"a": list(range(5)), "b": list(range(13))})
        # Candidates are counted once, however often a number stands in a list.
        self.assertSame(pasts(world, {"a": [0] * 100, "b": [0, -1] * 50}), [world])
        self.assertSame(len(pasts(world, {"a": list(range(64)) + [0] * 36})), 1)
        self.assertFails(TooLarge, {"limit": 64}, pasts, world, {lamp: list(range(100)) for lamp in world.web})

    def test_wrong(self):
        world = sample_world()
        for bad in (True, False, HUGE, -HUGE):
            self.assertFails(BadNumber, {"number": bad}, pasts, world, {"a": [5, bad]})
            self.assertFails(BadNumber, {"number": bad}, pasts, world, {"z": [bad], "a": []})
            self.assertFails(BadNumber, {"number": False}, pasts, world, {"c": [bad], "b": [1, False, bad]})
            self.assertFails(BadNumber, {"number": bad}, pasts, world, {"c": [bad], "b": list(range(100))})
        for bad in ("z", "k", "", "A"):
            self.assertFails(Unknown, {"name": bad}, pasts, world, {"c": [1], bad: [1]})
            self.assertFails(Unknown, {"name": bad}, pasts, world, {bad: []})
            self.assertFails(Unknown, {"name": bad}, pasts, world, {"c": list(range(100)), bad: list(range(100))})
        self.assertFails(Unknown, {"name": "x"}, pasts, world, {"z": [1], "x": [1], "y": []})
        self.assertFails(TooLarge, {"limit": 64}, pasts, choices={"c": list(range(100))}, world=world)
        self.assertSame(listed(pasts(world, {})), [world])


if __name__ == "__main__":
    unittest.main()
