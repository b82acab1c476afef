"""Point 36 and the interface of doubts.py."""
import copy
import itertools
import random
import unittest

from helpers import (
    LIMIT, Case, end_of, path_world, random_diary, runs_by_words, sample_world, subsets, world_with,
)

from outshiners.diaries import Diary, fits
from outshiners.doubts import conflict, first_misfit, is_conflict, wrong_sightings
from outshiners.faults import BadNumber, OutOfRange

HUGE = LIMIT + 1
NUMBERS = (True, False, HUGE, -HUGE)


def diaries(many=120, seed=91):
    """Many small diaries, with more sightings than in the other tests."""
    rng = random.Random(seed)
    found = []
    for _ in range(many):
        diary = random_diary(rng, most_moments=3, most_sightings=6)
        for _ in range(rng.randint(0, 2)):
            moment, lamp = rng.randint(1, diary.moments), rng.choice(diary.start.web.lamps)
            if (moment, lamp) not in [row[:2] for row in diary.sightings]:
                diary = diary.with_sighting(moment, lamp, rng.randrange(4))
        found.append(diary)
    return found


def fits_by_words(diary, places):
    """True if the diary with the sightings at these places alone has a run."""
    return runs_by_words(diary.start, diary.gaps, [diary.sightings[place] for place in places]) != []


def is_conflict_by_words(diary, places):
    """The words of point 36."""
    lesser = [[other for other in places if other != place] for place in places]
    return not fits_by_words(diary, places) and all(fits_by_words(diary, others) for others in lesser)


def misfit():
    """A diary with two conflicts."""
    return Diary(path_world(), [1, 1, 0], [(1, "b", 3), (2, "b", 3), (3, "d", 5), (3, "b", 5), (3, "a", 6)])


class Doubts(Case):
    def test_first_misfit(self):
        for diary in diaries():
            places = list(range(len(diary.sightings)))
            wrong = [place for place in places if not fits_by_words(diary, places[:place + 1])]
            self.assertSame(first_misfit(diary), wrong[0] if wrong else None)

    def test_conflict(self):
        found_some = 0
        for diary in diaries(300, seed=94):
            left = list(range(len(diary.sightings)))
            found = conflict(diary)
            if fits_by_words(diary, left):
                self.assertIs(found, None)
                continue
            for place in reversed(list(left)):
                others = [other for other in left if other != place]
                if not fits_by_words(diary, others):
                    left = others
            self.assertSame(found, left)
            self.assertSame(is_conflict_by_words(diary, found), True)
            self.assertSame(is_conflict(diary, found), True)
            for place in found:
                others = [other for other in found if other != place]
                self.assertSame(is_conflict(diary, others), False)
                self.assertSame(fits(diary.without([p for p in range(len(diary.sightings)) if p not in others])), True)
            found_some += len(found) > 1
        self.assertGreater(found_some, 10)

    def test_is_conflict(self):
        for diary in diaries(40, seed=92):
            for places in subsets(range(len(diary.sightings))):
                wanted = is_conflict_by_words(diary, places)
                self.assertSame(is_conflict(diary, places), wanted)
                self.assertSame(is_conflict(diary, tuple(places)), wanted)
                if len(places) > 1:
                    self.assertSame(is_conflict(diary, places[::-1]), False)
                if places:
                    self.assertSame(is_conflict(diary, places + places[-1:]), False)

    def test_wrong_sightings(self):
        sizes = set()
        for diary in diaries(150, seed=93):
            places = list(range(len(diary.sightings)))
            choices = [
                list(wrong) for size in range(3) for wrong in itertools.combinations(places, size)
                if fits_by_words(diary, [place for place in places if place not in wrong])
            ]
            for most in (0, 1, 2):
                able = [wrong for wrong in choices if len(wrong) <= most]
                fewest = min([len(wrong) for wrong in able], default=0)
                wanted = min([wrong for wrong in able if len(wrong) == fewest], default=None)
                self.assertSame(wrong_sightings(diary, most=most), wanted)
                sizes.add(None if wanted is None else len(wanted))
            self.assertSame(wrong_sightings(diary), wanted)
        self.assertEqual(sizes, {None, 0, 1, 2})

    def test_calls(self):
        diary = misfit()
        self.assertSame(diary.sightings, [(1, "b", 3), (2, "b", 3), (3, "a", 6), (3, "b", 5), (3, "d", 5)])
        self.assertCall(first_misfit, ["diary"], [diary], 2)
        self.assertCall(conflict, ["diary"], [diary], [2])
        self.assertCall(is_conflict, ["diary", "places"], [diary, [2]], True)
        self.assertCall(is_conflict, ["diary", "places"], [diary, [1, 3]], True)
        self.assertCall(is_conflict, ["diary", "places"], [diary, [4]], True)
        self.assertCall(is_conflict, ["diary", "places"], [diary, [0, 3]], False)
        self.assertCall(wrong_sightings, ["diary"], [diary], None)
        less = diary.without([4])
        self.assertSame(wrong_sightings(less), [1, 2])
        self.assertSame(wrong_sightings(diary=less, most=2), [1, 2])
        self.assertIs(wrong_sightings(less, most=1), None)
        self.assertSame(wrong_sightings(less.without([1]), most=1), [1])
        self.assertSame(wrong_sightings(less.without([1, 2]), most=0), [])
        self.assertIs(wrong_sightings(less, most=0), None)
        self.assertFreshList(lambda: conflict(diary))
        self.assertFreshList(lambda: wrong_sightings(less))
        with self.assertRaises(TypeError):
            wrong_sightings(diary, 2)

    def test_no_doubt(self):
        diary = Diary(sample_world(), [1, None])
        for call in (first_misfit, conflict):
            self.assertCall(call, ["diary"], [diary], None)
        self.assertSame(wrong_sightings(diary), [])
        self.assertSame(wrong_sightings(diary, most=0), [])
        self.assertSame(is_conflict(diary, []), False)
        self.assertSame(is_conflict(diary, [0]), False)

    def test_spoilt_places(self):
        diary = misfit()
        for bad in (-1, 5, 99, HUGE, -HUGE, True, False, -LIMIT):
            for places in ([bad], [2, bad], [bad, 2]):
                self.assertSame(is_conflict(diary, places), False)
        for places in ([2, 2], [3, 1], [], [1, 2, 3], [0, 1, 2, 3, 4], [0] * 20, list(range(30))):
            self.assertSame(is_conflict(diary, places), False)
        # True and False are not the places 1 and 0.
        simple = Diary(sample_world(), [0], [(1, "a", 4), (1, "b", 4)])
        self.assertSame([is_conflict(simple, [place]) for place in (0, 1, False, True)], [True, True, False, False])

    def test_wrong(self):
        diary = misfit()
        for bad in NUMBERS:
            self.assertFails(BadNumber, {"number": bad}, wrong_sightings, diary, most=bad)
            self.assertFails(BadNumber, {"number": bad}, wrong_sightings, Diary(sample_world(), [1]), most=bad)
        for bad in (-1, 3, LIMIT):
            self.assertFails(OutOfRange, {"number": bad, "low": 0, "high": 2}, wrong_sightings, diary, most=bad)
            self.assertFails(OutOfRange, {"number": bad, "low": 0, "high": 2}, wrong_sightings, Diary(sample_world(), [1]), most=bad)

    def test_nothing_is_changed(self):
        diary = misfit()
        before = copy.deepcopy(diary)
        for call in (first_misfit, conflict, wrong_sightings):
            call(diary)
        places = [1, 3]
        is_conflict(diary, places)
        self.assertSame((diary, places, diary.sightings), (before, [1, 3], before.sightings))

    def test_the_largest(self):
        start = world_with(100)
        end = end_of(start)
        lamps = start.web.lamps
        sightings = [(1, lamp, end.light(lamp)) for lamp in lamps][:5] + [(6, lamp, start.light(lamp)) for lamp in lamps][:5]
        diary = Diary(start, [100, None, 0, 7, 100, None], sightings)
        found = conflict(diary)
        self.assertSame(is_conflict(diary, found), True)
        self.assertSame(len(found), 2)
        self.assertIs(first_misfit(diary) is None, False)
        wrong_sightings(diary)


if __name__ == "__main__":
    unittest.main()
