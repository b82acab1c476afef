"""Points 35 and 36 and the interface of diaries.py."""
import copy
import random
import unittest

from helpers import (
    LIMIT, Case, end_of, histories_of, large_world, lengths_by_words, path_world, random_diary, runs_by_words,
    sample_web, sample_world, small_worlds, web_of, world_with,
)

from outshiners.deeds import replay, worlds_along
from outshiners.diaries import Diary, diary_along, fits, is_run, may_burn, must_burn, run_of, worlds_at
from outshiners.faults import BadNumber, Broken, Doubled, OutOfRange, TooLarge, Unknown
from outshiners.webs import Web
from outshiners.worlds import World

HUGE = LIMIT + 1
NUMBERS = (True, False, HUGE, -HUGE)
BAD_NAMES = ("z", "k", "", "A", "No Name")


def diaries(many=150, seed=81, **sizes):
    """Many small diaries."""
    rng = random.Random(seed)
    return [random_diary(rng, **sizes) for _ in range(many)]


def path_diary():
    """A diary of path_world with three moments and two sightings, which fits."""
    return Diary(path_world(), [1, 2, None], [(3, "d", 5), (1, "b", 5)])


class Made(Case):
    def test_properties(self):
        diary = path_diary()
        self.assertSame(diary.start, path_world())
        self.assertSame(diary.gaps, [1, 2, None])
        self.assertSame(diary.sightings, [(1, "b", 5), (3, "d", 5)])
        self.assertSame(diary.moments, 3)
        self.assertFreshList(lambda: diary.gaps)
        self.assertFreshList(lambda: diary.sightings)

    def test_calls(self):
        start = path_world()
        names = ["start", "gaps", "sightings"]
        self.assertCall(Diary, names, [start, [1, 2, None], [(3, "d", 5), (1, "b", 5)]], path_diary())
        self.assertCall(Diary, names[:2], [start, [1]], Diary(start, [1], []))
        self.assertSame(Diary(start, (None,)).sightings, [])
        found = Diary(start, (0, 100), [[2, "c", 1], [1, "d", 0], [1, "b", 9]])
        self.assertSame(found.sightings, [(1, "b", 9), (1, "d", 0), (2, "c", 1)])
        self.assertSame(found.gaps, [0, 100])

    def test_it_keeps_what_it_was_given(self):
        gaps, sightings = [1, 2], [[1, "b", 5]]
        diary = Diary(path_world(), gaps, sightings)
        gaps.append(3)
        sightings[0][2] = 9
        sightings.clear()
        self.assertSame((diary.gaps, diary.sightings), ([1, 2], [(1, "b", 5)]))

    def test_the_largest_and_the_smallest(self):
        start = path_world()
        sightings = [(moment, lamp, 5) for moment in (1, 6) for lamp in "abcd"] + [(2, "a", 5), (3, "a", 5)]
        diary = Diary(start, [0, 100, None, 0, 100, 7], sightings)
        self.assertSame((diary.moments, len(diary.sightings)), (6, 10))
        self.assertSame(Diary(start, [0]).moments, 1)
        self.assertSame(Diary(start, [0], [(1, "a", LIMIT), (1, "b", -LIMIT)]).sightings, [(1, "a", LIMIT), (1, "b", -LIMIT)])

    def test_100_and_101_worlds(self):
        start = world_with(100)
        self.assertSame(Diary(start, [None]).start, start)
        larger = world_with(101)
        for gaps, sightings in [([1], []), ([None] * 6, []), ([0], [(1, larger.web.lamps[0], 3)])]:
            self.assertFails(TooLarge, {"limit": 100}, Diary, larger, gaps, sightings)
        self.assertFails(TooLarge, {"limit": 100}, Diary, gaps=(0,), start=world_with(400))
        # Every other error goes ahead.
        self.assertFails(OutOfRange, {"number": 0, "low": 1, "high": 6}, Diary, larger, [])
        self.assertFails(OutOfRange, {"number": 2, "low": 1, "high": 1}, Diary, larger, [1], [(2, "a", 1)])

    def test_equal(self):
        diary = path_diary()
        self.assertSame(diary == Diary(path_world(), (1, 2, None), [(1, "b", 5), (3, "d", 5)]), True)
        for other in (
            Diary(path_world(), [1, 2, 100], diary.sightings), Diary(path_world(), [1, 2, None], diary.sightings[:1]),
            Diary(path_world().with_light("d", 1), [1, 2, None], diary.sightings), Diary(path_world(), [1, 2, None]),
            Diary(path_world(), [1, 2, None, None], diary.sightings), path_world(), "diary", 1, ([1], []),
        ):
            self.assertSame(diary == other, False)
            self.assertSame(other == diary, False)

    def test_without(self):
        diary = path_diary()
        self.assertCall(diary.without, ["places"], [[]], diary)
        self.assertCall(diary.without, ["places"], [[0]], Diary(path_world(), [1, 2, None], [(3, "d", 5)]))
        self.assertCall(diary.without, ["places"], [[1, 1]], Diary(path_world(), [1, 2, None], [(1, "b", 5)]))
        self.assertCall(diary.without, ["places"], [[1, 0, 1, 0]], Diary(path_world(), [1, 2, None]))
        for bad in (-1, 2, LIMIT):
            self.assertFails(OutOfRange, {"number": bad, "low": 0, "high": 1}, diary.without, [0, bad, 7])
            self.assertFails(OutOfRange, {"number": bad, "low": 0, "high": -1}, diary.without([0, 1]).without, [bad])
        self.assertFails(OutOfRange, {"number": 0, "low": 0, "high": -1}, Diary(path_world(), [1]).without, [0])
        for bad in NUMBERS:
            self.assertFails(BadNumber, {"number": bad}, diary.without, [9, bad, 0, True])
        self.assertSame(Diary(path_world(), [1]).without(()), Diary(path_world(), [1]))

    def test_with_sighting(self):
        diary = path_diary()
        names = ["moment", "lamp", "light"]
        wanted = Diary(path_world(), [1, 2, None], [(1, "b", 5), (2, "c", 1), (3, "d", 5)])
        self.assertCall(diary.with_sighting, names, [2, "c", 1], wanted)
        self.assertSame(diary, path_diary())
        for bad in NUMBERS:
            self.assertFails(BadNumber, {"number": bad}, diary.with_sighting, bad, "z", HUGE)
            self.assertFails(BadNumber, {"number": bad}, diary.with_sighting, 1, "b", bad)
        self.assertFails(Doubled, {"name": "b"}, diary.with_sighting, 1, "b", 7)
        for bad in BAD_NAMES:
            self.assertFails(Unknown, {"name": bad}, diary.with_sighting, 9, bad, 1)
        for bad in (0, 4, -1, LIMIT):
            self.assertFails(OutOfRange, {"number": bad, "low": 1, "high": 3}, diary.with_sighting, bad, "b", 1)
        full = Diary(path_world(), [1] * 6, [(moment, lamp, 1) for moment in range(1, 6) for lamp in "ab"])
        self.assertFails(OutOfRange, {"number": 11, "low": 0, "high": 10}, full.with_sighting, 6, "a", 1)
        self.assertFails(OutOfRange, {"number": 11, "low": 0, "high": 10}, full.with_sighting, 7, "a", 1)
        self.assertFails(Doubled, {"name": "a"}, full.with_sighting, 5, "a", 1)


class Wrong(Case):
    def test_numbers(self):
        start = path_world()
        for bad in NUMBERS:
            self.assertFails(BadNumber, {"number": bad}, Diary, start, [1, bad], [(True, "z", HUGE)])
            self.assertFails(BadNumber, {"number": bad}, Diary, start, [1, None], [(1, "z", 1), (bad, "z", HUGE)])
            self.assertFails(BadNumber, {"number": bad}, Diary, start, [1, None], [(1, "z", bad), (HUGE, "z", 1)])
            self.assertFails(BadNumber, {"number": bad}, Diary, start, [], [(1, "z", 1)] * 11 + [(99, "a", bad)])

    def test_doubled(self):
        start = path_world()
        for lamp in BAD_NAMES + ("a",):
            self.assertFails(Doubled, {"name": lamp}, Diary, start, [999], [(1, "zz", 1), (1, lamp, 1), (1, lamp, 1)])
            self.assertFails(Doubled, {"name": lamp}, Diary, start, [], [(7, lamp, 1), (8, lamp, 1), (7, lamp, 2)])
        sightings = [(1, "a", 1), (1, "b", 1), (2, "a", 1), (2, "b", 1), (2, "b", 1), (1, "a", 1)]
        self.assertFails(Doubled, {"name": "b"}, Diary, start, [1, 1], sightings)
        self.assertSame(len(Diary(start, [1, 1], sightings[:4]).sightings), 4)

    def test_unknown(self):
        start = path_world()
        for bad in BAD_NAMES:
            self.assertFails(Unknown, {"name": bad}, Diary, start, [], [(0, "a", 1), (0, bad, 1), (0, "zz", 1)])
            self.assertFails(Unknown, {"name": bad}, Diary, start, [101], [(0, bad, 1)])

    def test_out_of_range(self):
        start = path_world()
        many = [(moment, "a", 1) for moment in range(0, 11)]
        self.assertFails(OutOfRange, {"number": 0, "low": 1, "high": 6}, Diary, start, [], many)
        self.assertFails(OutOfRange, {"number": 7, "low": 1, "high": 6}, Diary, start, [101] * 7, many)
        for bad in (-1, 101, LIMIT, -LIMIT):
            self.assertFails(OutOfRange, {"number": bad, "low": 0, "high": 100}, Diary, start, [1, None, bad, 999], many)
        self.assertFails(OutOfRange, {"number": 11, "low": 0, "high": 10}, Diary, start, [1], many)
        for bad in (0, 3, -1, LIMIT):
            wrong = {"number": bad, "low": 1, "high": 2}
            self.assertFails(OutOfRange, wrong, Diary, start, [0, 0], [(2, "a", 1), (bad, "a", 1), (9, "a", 1)])

    def test_out_of_range_goes_ahead_of_too_large(self):
        larger = world_with(101)
        self.assertFails(OutOfRange, {"number": 101, "low": 0, "high": 100}, Diary, larger, [101])
        self.assertFails(Unknown, {"name": "z"}, Diary, larger, [1], [(1, "z", 1)])


class Runs(Case):
    def test_all_runs(self):
        fitting = 0
        for diary in diaries():
            runs = runs_by_words(diary.start, diary.gaps, diary.sightings)
            self.assertSame(fits(diary), runs != [])
            fitting += runs != []
            for moment in range(diary.moments + 1):
                rows = {run[moment - 1] if moment else diary.start.row for run in runs}
                wanted = [World.of_row(diary.start.web, row) for row in sorted(rows)]
                self.assertSame(worlds_at(diary, moment), wanted)
                for lamp in diary.start.web:
                    lights = sorted({world.light(lamp) for world in wanted})
                    self.assertSame(may_burn(diary, moment, lamp), lights)
                    self.assertSame(must_burn(diary, moment, lamp), lights[0] if len(lights) == 1 else None)
            found = run_of(diary)
            if not runs:
                self.assertIs(found, None)
            else:
                self.assertIs(type(found), list)
                self.assertIn([world.row for world in found], runs)
                self.assertSame(is_run(diary, found), True)
                self.assertSame(run_of(diary), found)
        self.assertGreater(fitting, 50)
        self.assertLess(fitting, 140)

    def test_each_run_is_accepted_and_spoilt_ones_refused(self):
        for diary in diaries(60, seed=82, most_moments=2):
            runs = runs_by_words(diary.start, diary.gaps, diary.sightings)
            rows = sorted(lengths_by_words(diary.start)) + [tuple(light + 9 for light in diary.start.row)]
            for run in runs[:20]:
                worlds = [World.of_row(diary.start.web, row) for row in run]
                self.assertSame(is_run(diary, worlds), True)
                self.assertSame(is_run(diary, tuple(worlds)), True)
                for place in range(len(run)):
                    for row in rows:
                        spoilt = run[:place] + [row] + run[place + 1:]
                        worlds = [World.of_row(diary.start.web, row) for row in spoilt]
                        self.assertSame(is_run(diary, worlds), spoilt in runs)

    def test_is_run_of_another_form(self):
        diary = path_diary()
        run = run_of(diary)
        self.assertCall(is_run, ["diary", "worlds"], [diary, run], True)
        for worlds in ([], run[:2], run[1:], run + run[-1:], run[::-1], [path_world()] * 3, [sample_world()] * 3):
            self.assertCall(is_run, ["diary", "worlds"], [diary, worlds], False)
        over = run[0].over(run[0].web.with_ceiling("a", 50))
        self.assertSame(is_run(diary, [over] + run[1:]), False)
        self.assertSame(is_run(diary, run[:2] + [World.flat(Web([("a", None)]), 5)]), False)

    def test_without_sightings_it_always_fits(self):
        for start in small_worlds(40):
            for gaps in ([0], [None], [1, 0, 2], [100] * 6):
                diary = Diary(start, gaps)
                self.assertSame(fits(diary), True)
                self.assertSame(is_run(diary, [start] * len(gaps)), True)
                self.assertSame(worlds_at(diary, 0), [start])

    def test_gaps(self):
        start = path_world()
        sightings = [(1, "d", 5)]
        for gap, wanted in [(0, False), (1, False), (2, False), (3, True), (4, True), (100, True), (None, True)]:
            self.assertSame(fits(Diary(start, [gap], sightings)), wanted)
        self.assertSame(fits(Diary(start, [1, 0, 2, 0], [(4, "d", 5)])), True)
        self.assertSame(fits(Diary(start, [1, 0, 1, 0], [(4, "d", 5)])), False)
        self.assertSame(fits(Diary(start, [0, 0, 0], [(moment, lamp, start.light(lamp)) for moment in (1, 2, 3) for lamp in "abc"])), True)

    def test_sightings_hinder_one_another(self):
        web = web_of("abc", ["ab", "bc"])
        start = World.of_row(web, (5, 0, 1))
        one, two = (1, "b", 1), (2, "c", 5)
        for sightings, wanted in [([one], True), ([two], True), ([one, two], True)]:
            self.assertSame(fits(Diary(start, [1, 2], sightings)), wanted)
        for sightings, wanted in [([(1, "b", 5)], True), ([(2, "b", 1)], True), ([(1, "b", 5), (2, "b", 1)], False)]:
            self.assertSame(fits(Diary(start, [1, 2], sightings)), wanted)

    def test_a_run_goes_from_world_to_world(self):
        # c gets its light over a or over b; only who has it over a can be where a burns at the next moment.
        start = World.of_row(web_of("abcz", ["az", "bz", "ac", "bc"]), (0, 0, 0, 1))
        diary = Diary(start, [2, 0], [(1, "c", 1), (2, "a", 1)])
        self.assertSame([world.row for world in run_of(diary)], [(1, 0, 1, 1)] * 2)
        diary = Diary(start, [2, 1], [(1, "c", 1), (2, "a", 1)])
        self.assertSame([world.row for world in worlds_at(diary, 1)], [(0, 1, 1, 1), (1, 0, 1, 1)])
        self.assertSame([world.row for world in worlds_at(diary, 2)], [(1, 0, 1, 1), (1, 1, 1, 1)])
        self.assertSame(is_run(diary, run_of(diary)), True)
        self.assertSame([is_run(diary, [one, two]) for one in worlds_at(diary, 1) for two in worlds_at(diary, 2)], [
            False, True, True, True,
        ])

    def test_lights_in_ascending_order(self):
        start = World.of_row(web_of("abcde", ["ab", "ac", "ad", "ae"]), (-70, 1000, -5, 33, 8))
        self.assertSame(may_burn(Diary(start, [1]), 1, "a"), [-70, -5, 8, 33, 1000])

    def test_calls(self):
        diary = Diary(sample_world(), [1, None], [(2, "b", 3)])
        after = World.of_row(sample_web(), (5, 3, 3))
        self.assertCall(fits, ["diary"], [diary], True)
        self.assertCall(worlds_at, ["diary", "moment"], [diary, 1], [sample_world(), after])
        self.assertCall(worlds_at, ["diary", "moment"], [diary, 2], [after])
        self.assertCall(may_burn, ["diary", "moment", "lamp"], [diary, 1, "b"], [1, 3])
        self.assertCall(must_burn, ["diary", "moment", "lamp"], [diary, 1, "b"], None)
        self.assertCall(must_burn, ["diary", "moment", "lamp"], [diary, 2, "b"], 3)
        self.assertCall(must_burn, ["diary", "moment", "lamp"], [diary, 0, "a"], 5)
        self.assertCall(run_of, ["diary"], [Diary(sample_world(), [0])], [sample_world()])
        self.assertFreshList(lambda: worlds_at(diary, 1))
        self.assertFreshList(lambda: may_burn(diary, 1, "b"))
        self.assertFreshList(lambda: run_of(diary))

    def test_a_diary_that_does_not_fit(self):
        diary = Diary(sample_world(), [1, None], [(2, "b", 4)])
        self.assertCall(fits, ["diary"], [diary], False)
        self.assertCall(run_of, ["diary"], [diary], None)
        for moment in (0, 1, 2):
            self.assertCall(worlds_at, ["diary", "moment"], [diary, moment], [])
            self.assertCall(may_burn, ["diary", "moment", "lamp"], [diary, moment, "a"], [])
            self.assertCall(must_burn, ["diary", "moment", "lamp"], [diary, moment, "a"], None)
        self.assertSame(is_run(diary, [sample_world()] * 2), False)

    def test_wrong(self):
        diary = path_diary()
        for call, more in [(worlds_at, ()), (may_burn, ("z",)), (must_burn, ("z",))]:
            for bad in NUMBERS:
                self.assertFails(BadNumber, {"number": bad}, call, diary, bad, *more)
        for call, more in [(worlds_at, ()), (may_burn, ("a",)), (must_burn, ("a",))]:
            for bad in (-1, 4, LIMIT):
                self.assertFails(OutOfRange, {"number": bad, "low": 0, "high": 3}, call, diary, bad, *more)
        for call in (may_burn, must_burn):
            for bad in BAD_NAMES:
                self.assertFails(Unknown, {"name": bad}, call, diary, -1, bad)
                self.assertFails(Unknown, {"name": bad}, call, lamp=bad, moment=1, diary=diary)

    def test_nothing_is_changed(self):
        diary = path_diary()
        before = copy.deepcopy(diary)
        for call in (fits, run_of):
            call(diary)
        worlds_at(diary, 2)
        self.assertSame(diary, before)
        self.assertSame(diary.sightings, before.sightings)

    def test_the_largest(self):
        start = world_with(100)
        end = end_of(start)
        lamps = start.web.lamps
        sightings = [(moment, lamp, end.light(lamp)) for moment, lamp in zip([1, 2, 3, 4, 5, 6] * 2, lamps * 2)][:10]
        diary = Diary(start, [1, 2, None, 1, 100, 3], sightings)
        self.assertSame(fits(diary), is_run(diary, run_of(diary) or []))
        wide = Diary(start, [None] * 6, [(6, lamp, end.light(lamp)) for lamp in lamps])
        self.assertSame(len(worlds_at(wide, 5)), 100)
        self.assertSame(worlds_at(wide, 6), [end])
        self.assertSame(is_run(wide, run_of(wide)), True)


class Along(Case):
    def test_it_fits(self):
        rng = random.Random(83)
        for world in small_worlds(60, seed=84):
            for history in histories_of(world)[:10]:
                stops = sorted(rng.randint(0, len(history)) for _ in range(rng.randint(1, 4)))
                lamps = rng.sample(world.web.lamps, rng.randint(0, min(2, len(world.web.lamps))))
                diary = diary_along(world, list(history), stops, lamps)
                worlds = worlds_along(world, history)
                self.assertSame(diary.start, world)
                self.assertSame(diary.gaps, [stop - before for before, stop in zip([0] + stops, stops)])
                wanted = sorted(
                    (moment, lamp, worlds[stop].light(lamp)) for moment, stop in enumerate(stops, 1) for lamp in lamps
                )
                self.assertSame(diary.sightings, wanted)
                self.assertSame(fits(diary), True)
                self.assertSame(is_run(diary, [worlds[stop] for stop in stops]), True)

    def test_calls(self):
        world = path_world()
        names = ["world", "history", "stops", "lamps"]
        history = ["q", "p", "r"]
        self.assertSame(replay(world, history).row, (5, 5, 3, 3))
        wanted = Diary(world, [1, 0, 2], [
            (1, "b", 3), (1, "d", 0), (2, "b", 3), (2, "d", 0), (3, "b", 5), (3, "d", 3),
        ])
        self.assertCall(diary_along, names, [world, history, [1, 1, 3], ["d", "b"]], wanted)
        self.assertCall(diary_along, names, [world, [], [0], []], Diary(world, [0]))
        self.assertCall(diary_along, names, [world, history, [0], ["a"]], Diary(world, [0], [(1, "a", 5)]))

    def test_sizes(self):
        world = path_world()
        history = ["p", "q", "r"]
        self.assertSame(diary_along(world, history, [0, 1, 1, 2, 3, 3], ["a"]).moments, 6)
        self.assertSame(len(diary_along(world, history, [0, 3], "abcd").sightings), 8)
        self.assertSame(len(diary_along(world, history, [0, 1, 1, 2, 3], ["c", "b"]).sightings), 10)
        for stops, lamps, many in [([0, 1, 2], "abcd", 12), ([0, 1, 1, 1, 2, 3], "ab", 12)]:
            self.assertFails(OutOfRange, {"number": many, "low": 0, "high": 10}, diary_along, world, history, stops, list(lamps))

    def test_wrong_stops(self):
        world = path_world()
        history = ["p", "q", "r"]
        self.assertFails(OutOfRange, {"number": 0, "low": 1, "high": 6}, diary_along, world, history, [], ["a"])
        self.assertFails(OutOfRange, {"number": 7, "low": 1, "high": 6}, diary_along, world, history, [9, 0, 0, 0, 0, 0, 0], ["a"])
        for stops, bad, low in [
            ([4], 4, 0), ([-1], -1, 0), ([2, 1], 1, 2), ([1, 2, 2, 1, 9], 1, 2), ([3, 4], 4, 3), ([0, LIMIT], LIMIT, 0),
            ([2, 0, 9], 0, 2),
        ]:
            wrong = {"number": bad, "low": low, "high": 3}
            self.assertFails(OutOfRange, wrong, diary_along, world, history, stops, ["a"])
            self.assertFails(OutOfRange, wrong, diary_along, world, history, stops, list("abcd"))
            self.assertFails(OutOfRange, wrong, diary_along, world, ["p", "p", "p"], stops, ["a"])
        for bad in NUMBERS:
            self.assertFails(BadNumber, {"number": bad}, diary_along, world, ["zz"], [9, bad, True], ["z", "z"])

    def test_wrong_names(self):
        world = path_world()
        for bad in ("z", "a", "", "No Name"):
            self.assertFails(Unknown, {"name": bad}, diary_along, world, ["p", "p", bad, "zz"], [], ["z"])
            self.assertFails(Doubled, {"name": bad}, diary_along, world, ["zz"], [], ["d", bad, bad, "d"])
        for bad in ("z", "p", "", "No Name"):
            self.assertFails(Unknown, {"name": bad}, diary_along, world, ["p", "p"], [7], ["a", bad, "zz"])

    def test_broken(self):
        world = path_world()
        wrong = {"place": 1, "bond": "p", "cause": "alike"}
        for stops in ([0], [1], [2], [3], [0, 3]):
            self.assertFails(Broken, wrong, diary_along, world, ["p", "p", "q"], stops, ["a"])
        wrong = {"place": 0, "bond": "s", "cause": "shut"}
        self.assertFails(Broken, wrong, diary_along, world, ["s"] * 200, [0, 200], [])
        self.assertFails(OutOfRange, {"number": 201, "low": 0, "high": 200}, diary_along, world, ["s"] * 200, [0, 201], [])

    def test_too_many_sightings_go_ahead_of_broken_and_too_large(self):
        wrong = {"number": 12, "low": 0, "high": 10}
        self.assertFails(OutOfRange, wrong, diary_along, path_world(), ["p", "p"], [0, 1, 2], list("abcd"))
        larger = world_with(101)
        self.assertFails(OutOfRange, wrong, diary_along, larger, [], [0, 0, 0], larger.web.lamps[:4])

    def test_too_large_goes_ahead_of_broken(self):
        larger = world_with(101)
        bond = larger.web.bonds[0]
        for history, stops in [([], [0]), ([bond, bond, bond], [3])]:
            self.assertFails(TooLarge, {"limit": 100}, diary_along, larger, history, stops, [])
        self.assertFails(OutOfRange, {"number": 4, "low": 0, "high": 3}, diary_along, larger, [bond] * 3, [4], [])
        self.assertFails(TooLarge, {"limit": 100}, diary_along, large_world(), [], [0], [])

    def test_100_worlds(self):
        world = world_with(100)
        self.assertSame(fits(diary_along(world, [], [0, 0], world.web.lamps[:5])), True)


if __name__ == "__main__":
    unittest.main()
