"""Point 19 and the interface of joinings.py."""
import unittest

from helpers import (
    LIMIT, Case, field_by_words, hanging_by_words, is_hung_by_words, large_world, lengths_by_words, path_world,
    random_pairs, sample_world, small_worlds, subsets, web_of,
)

from outshiners.coming import comes, obstacle
from outshiners.deeds import is_history
from outshiners.faults import BadNumber, NotComing, OutOfRange, WebsDiffer
from outshiners.joinings import (
    counts_by_light, due, fewest_deeds, greatest_joining, history_of, is_hung, joining_of, least_joining, most_deeds,
)
from outshiners.worlds import World

HUGE = LIMIT + 1
NUMBERS = (True, False, HUGE, -HUGE)
LIGHTS = (-1, 0, 1, 2, 3, 4)


def coming_pairs(many=400, **sizes):
    """Pairs of worlds of which the second comes of the first."""
    return [pair for pair in random_pairs(many, **sizes) if comes(*pair)]


def due_by_words(first, second, light):
    """The words of point 19."""
    return [lamp for lamp in first.web if second.light(lamp) == light > first.light(lamp)]


def joinings_by_words(first, second, light):
    """All joinings of the light, as lists in name order."""
    needed = set(due_by_words(first, second, light))
    caps = second.lights
    return [
        lamps for lamps in subsets(first.web.lamps)
        if needed <= set(lamps) and is_hung_by_words(first, caps, light, lamps)
    ]


def helped():
    """A world over the lamps a to f in which d must take 5, and b, c, e and f may."""
    web = web_of("abcdefg", ["ab", "ac", "bd", "cd", "de", "ef", "bg", "cg", "eg", "fg"])
    first = World.of_row(web, (5, 0, 0, 0, 0, 0, 6))
    return first, World.of_row(web, (5, 6, 6, 5, 6, 6, 6))


class Counts(Case):
    def test_fewest_and_most_over_all_histories(self):
        for world in small_worlds(50, most_lamps=4, most_bonds=5):
            for row, lengths in lengths_by_words(world).items():
                second = World.of_row(world.web, row)
                fewest, most = fewest_deeds(world, second), most_deeds(world, second)
                # Every count between the two occurs, and no other one.
                self.assertSame(sorted(lengths), list(range(fewest, most + 1)))
                for deeds in range(fewest, most + 1):
                    history = history_of(world, second, deeds=deeds)
                    self.assertSame((type(history), len(history)), (list, deeds))
                    self.assertSame(is_history(world, second, history), True)
                self.assertSame(history_of(world, second), history_of(world, second, deeds=fewest))

    def test_counts_by_light(self):
        for first, second in coming_pairs():
            rows = counts_by_light(first, second)
            self.assertSame([row[0] for row in rows], first.borne)
            for light, least, greatest in rows:
                sizes = sorted({len(lamps) for lamps in joinings_by_words(first, second, light)})
                self.assertSame(sizes, list(range(least, greatest + 1)))
            self.assertSame(fewest_deeds(first, second), sum(row[1] for row in rows))
            self.assertSame(most_deeds(first, second), sum(row[2] for row in rows))

    def test_calls(self):
        first, second = helped()
        names = ["first", "second"]
        self.assertCall(counts_by_light, names, [first, second], [(0, 0, 0), (5, 2, 5), (6, 4, 4)])
        self.assertCall(fewest_deeds, names, [first, second], 6)
        self.assertCall(most_deeds, names, [first, second], 9)
        self.assertFreshList(lambda: counts_by_light(first, second))

    def test_history_of(self):
        first, second = helped()
        for deeds in range(6, 10):
            history = history_of(first, second, deeds=deeds)
            self.assertSame(len(history), deeds)
            self.assertSame(is_history(first, second, history), True)
            self.assertSame(history_of(deeds=deeds, second=second, first=first), history)
        self.assertSame(history_of(first, second), history_of(first, second, deeds=None))
        self.assertSame(len(history_of(first, second)), 6)
        self.assertSame(history_of(first, first), [])
        with self.assertRaises(TypeError):
            history_of(first, second, 6)
        for deeds in (5, 10, 0, -1, LIMIT, -LIMIT):
            wrong = {"number": deeds, "low": 6, "high": 9}
            self.assertFails(OutOfRange, wrong, history_of, first, second, deeds=deeds)
        self.assertFails(OutOfRange, {"number": 1, "low": 0, "high": 0}, history_of, first, first, deeds=1)

    def test_the_largest_world(self):
        world = large_world()
        for second in (World.of_row(world.web, (9, 9, 9, 9, 9, 7, 9, 9, 9, 9)), World.flat(world.web, 9), world):
            fewest, most = fewest_deeds(world, second), most_deeds(world, second)
            for deeds in (fewest, most, (fewest + most) // 2):
                history = history_of(world, second, deeds=deeds)
                self.assertSame((len(history), is_history(world, second, history)), (deeds, True))


class Sets(Case):
    def test_due(self):
        first, second = helped()
        self.assertCall(due, ["first", "second", "light"], [first, second, 5], ["d"])
        self.assertCall(due, ["first", "second", "light"], [first, second, 6], ["b", "c", "e", "f"])
        self.assertSame(due(first, second, 0), [])
        for one, other in random_pairs(80):
            for light in LIGHTS:
                self.assertSame(due(one, other, light), due_by_words(one, other, light))

    def test_joinings(self):
        first, second = helped()
        names = ["first", "second", "light"]
        self.assertCall(least_joining, names, [first, second, 5], ["b", "d"])
        self.assertCall(greatest_joining, names, [first, second, 5], ["b", "c", "d", "e", "f"])
        for light in (4, 0, LIMIT, -LIMIT):
            self.assertSame(least_joining(first, second, light), [])
            self.assertSame(greatest_joining(first, second, light), [])
            self.assertSame(joining_of(first, second, light, 0), [])

    def test_all_that_hang_are_needed(self):
        # b and c must take 5 so that d ends with it; they end with the 7 of e.
        web = web_of("abcdef", ["ac", "bc", "bd", ("be", 7, 7), ("ce", 7, 7)])
        first = World.of_row(web, (5, 0, 0, 0, 7, 0))
        second = World.of_row(web, (5, 7, 7, 5, 7, 0))
        wanted = ["b", "c", "d"]
        self.assertSame((least_joining(first, second, 5), greatest_joining(first, second, 5)), (wanted, wanted))
        self.assertSame(joining_of(first, second, 5, 3), wanted)

    def test_no_lamp_is_due_but_some_hang(self):
        first = path_world()
        second = World.of_row(first.web, (5, 5, 5, 0))
        self.assertSame(least_joining(first, second, 3), [])
        self.assertSame(greatest_joining(first, second, 3), ["c"])
        self.assertSame(joining_of(first, second, 3, 1), ["c"])
        self.assertSame(joining_of(first, second, 3, 0), [])

    def test_joinings_over_all_sets(self):
        for first, second in coming_pairs():
            for light in LIGHTS:
                found = joinings_by_words(first, second, light)
                size = min(len(lamps) for lamps in found)
                self.assertSame(least_joining(first, second, light), min(lamps for lamps in found if len(lamps) == size))
                wanted = [lamp for lamp in sorted(hanging_by_words(first, second.lights, light)) if first.light(lamp) != light]
                self.assertSame(greatest_joining(first, second, light), wanted)
                self.assertIn(wanted, found)
                for size in range(size, len(wanted) + 1):
                    self.assertIn(joining_of(first, second, light, size), found)
                    self.assertEqual(len(joining_of(first, second, light, size)), size)

    def test_joining_of(self):
        first, second = helped()
        names = ["first", "second", "light", "size"]
        self.assertCall(joining_of, names, [first, second, 5, 2], ["b", "d"])
        self.assertCall(joining_of, names, [first, second, 5, 5], ["b", "c", "d", "e", "f"])
        for size in (3, 4):
            self.assertCall(joining_of, names, [first, second, 5, size], joining_of(first, second, 5, size))
        for size in (1, 6, -1, LIMIT):
            self.assertFails(OutOfRange, {"number": size, "low": 2, "high": 5}, joining_of, first, second, 5, size)
        for light in (4, LIMIT):
            self.assertFails(OutOfRange, {"number": 1, "low": 0, "high": 0}, joining_of, first, second, light, 1)

    def test_joinings_can_be_changed_by_the_caller(self):
        first, second = helped()
        for call in (due, least_joining, greatest_joining):
            self.assertFreshList(lambda: call(first, second, 5))
        self.assertFreshList(lambda: joining_of(first, second, 5, 3))
        self.assertFreshList(lambda: history_of(first, second))


class Hung(Case):
    def test_is_hung_over_all_sets(self):
        for first, second in random_pairs(80):
            for light in LIGHTS:
                for lamps in subsets(first.web.lamps):
                    wanted = is_hung_by_words(first, second.lights, light, lamps)
                    self.assertSame(is_hung(first, second, light, lamps), wanted)

    def test_calls(self):
        first, second = helped()
        names = ["first", "second", "light", "lamps"]
        self.assertCall(is_hung, names, [first, second, 5, ["b", "d"]], True)
        self.assertCall(is_hung, names, [first, second, 5, []], True)
        self.assertCall(is_hung, names, [first, second, 5, ["d"]], False)

    def test_spoilt_lists(self):
        first, second = helped()
        for lamps in (
            ["d", "b"], ["b", "b"], ["b", "b", "d"], ["a", "b"], ["a"], ["b", "g"], ["b", "z"], [""], ["No Name", "b"],
            ["b", "d", "k00"], ["d", "e"], ["b", "c", "d", "e", "f", "g"],
        ):
            self.assertSame(is_hung(first, second, 5, lamps), False)

    def test_a_light_that_is_not_borne(self):
        first, second = helped()
        for light in (4, -LIMIT, LIMIT):
            self.assertSame(is_hung(first, second, light, []), True)
            self.assertSame(is_hung(first, second, light, ["b"]), False)

    def test_a_world_that_does_not_come(self):
        first, second = helped()
        worse = second.with_light("a", 4)
        self.assertSame(comes(first, worse), False)
        # The spring a is not in the field, so that nothing hangs on it.
        self.assertSame(is_hung(first, worse, 5, ["b"]), False)
        self.assertSame(field_by_words(first, worse.lights, 5), {"b", "c", "d", "e", "f"})
        self.assertSame(is_hung(first, second.with_light("d", 9), 5, ["b", "d"]), True)
        self.assertSame(due(first, worse, 5), ["d"])


class Wrong(Case):
    pair_calls = [
        (least_joining, (5,)), (greatest_joining, (5,)), (joining_of, (5, 2)), (counts_by_light, ()), (fewest_deeds, ()),
        (most_deeds, ()), (history_of, ()),
    ]

    def test_not_coming(self):
        for first, second in random_pairs(60, seed=6):
            paper = obstacle(first, second)
            if paper is not None:
                for call, more in self.pair_calls:
                    self.assertFails(NotComing, {"paper": paper}, call, first, second, *more)

    def test_not_coming_goes_ahead_of_a_range_that_is_computed(self):
        first, second = helped()
        worse = second.with_light("d", 4)
        paper = ("shade", "d", ("b", "c", "d", "e", "f"))
        self.assertSame(obstacle(first, worse), paper)
        for number in (-1, 99, LIMIT):
            self.assertFails(NotComing, {"paper": paper}, joining_of, first, worse, 5, number)
            self.assertFails(NotComing, {"paper": paper}, history_of, first, worse, deeds=number)

    def test_webs_differ(self):
        first, _ = helped()
        for other in (sample_world(), first.over(first.web.without_bond("k00"))):
            for call, more in self.pair_calls + [(due, (5,)), (is_hung, (5, ["b"]))]:
                self.assertFails(WebsDiffer, {}, call, first, other, *more)
            self.assertFails(WebsDiffer, {}, history_of, first, other, deeds=99)

    def test_bad_numbers(self):
        first, second = helped()
        for other in (second, second.with_light("d", 4), sample_world()):
            for bad in NUMBERS:
                for call, more in [(due, ()), (least_joining, ()), (greatest_joining, ()), (is_hung, (["b"],))]:
                    self.assertFails(BadNumber, {"number": bad}, call, first, other, bad, *more)
                self.assertFails(BadNumber, {"number": bad}, joining_of, first, other, bad, True)
                self.assertFails(BadNumber, {"number": bad}, joining_of, first, other, 5, bad)
                self.assertFails(BadNumber, {"number": bad}, history_of, first, other, deeds=bad)


if __name__ == "__main__":
    unittest.main()
