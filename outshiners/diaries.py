"""Diaries: what was seen of a world at some moments, and the runs that fit it (points 35 and 36)."""
from outshiners.checks import check_between, check_bonds, check_lamp, check_unlike
from outshiners.deeds import worlds_along
from outshiners.faults import Doubled
from outshiners.moments import MOST_WORLDS, diary_steps, is_fitting, rows_of_runs, rows_seen, seen_at
from outshiners.reach import rows_within, steps_within
from outshiners.spans import check_number, check_open_number
from outshiners.worlds import World

MOST_MOMENTS = 6
MOST_GAP = 100
MOST_SIGHTINGS = 10


def check_diary(start, gaps, sightings):
    """Raise what is wrong with the parts of a diary, in the order of errors."""
    for gap in gaps:
        check_open_number(gap)
    for moment, _, light in sightings:
        check_number(moment)
        check_number(light)
    check_one_sighting(sightings)
    for _, lamp, _ in sightings:
        check_lamp(start.web, lamp)
    check_between(len(gaps), 1, MOST_MOMENTS)
    for gap in gaps:
        if gap is not None:
            check_between(gap, 0, MOST_GAP)
    check_between(len(sightings), 0, MOST_SIGHTINGS)
    for moment, _, _ in sightings:
        check_between(moment, 1, len(gaps))
    steps_within(start, MOST_WORLDS)


def check_one_sighting(sightings):
    """Raise Doubled at the second sighting of a lamp at one moment."""
    seen = set()
    for moment, lamp, _ in sightings:
        if (moment, lamp) in seen:
            raise Doubled(lamp)
        seen.add((moment, lamp))


class Diary:
    """A world that is known at moment 0, and sightings of lamps at later moments."""

    def __init__(self, start, gaps, sightings=()):
        check_diary(start, gaps, sightings)
        self._start = start
        self._gaps = tuple(gaps)
        self._sightings = tuple(sorted([(moment, lamp, light) for moment, lamp, light in sightings]))

    @property
    def start(self):
        """The World at moment 0."""
        return self._start

    @property
    def gaps(self):
        """The list of the gaps, one before each moment from 1 on."""
        return list(self._gaps)

    @property
    def sightings(self):
        """The list of (moment, lamp, light) in ascending order."""
        return list(self._sightings)

    @property
    def moments(self):
        """The count of the moments from 1 on."""
        return len(self._gaps)

    def without(self, places):
        """A new Diary without the sightings at these places."""
        for place in places:
            check_number(place)
        for place in places:
            check_between(place, 0, len(self._sightings) - 1)
        kept = [sighting for place, sighting in enumerate(self._sightings) if place not in places]
        return Diary(self._start, self._gaps, kept)

    def with_sighting(self, moment, lamp, light):
        """A new Diary with one more sighting."""
        return Diary(self._start, self._gaps, (*self._sightings, (moment, lamp, light)))

    def __eq__(self, other):
        if not isinstance(other, Diary):
            return False
        return self._start == other._start and self._gaps == other._gaps and self._sightings == other._sightings


def diary_along(world, history, stops, lamps):
    """The Diary of a replay: it sees each of the lamps after so many deeds as each stop tells."""
    for stop in stops:
        check_number(stop)
    check_unlike(lamps)
    check_bonds(world.web, history)
    for lamp in lamps:
        check_lamp(world.web, lamp)
    check_between(len(stops), 1, MOST_MOMENTS)
    starts = [0, *stops]
    for before, stop in zip(starts, stops):
        check_between(stop, before, len(history))
    check_between(len(stops) * len(lamps), 0, MOST_SIGHTINGS)
    # A start of which too many worlds come goes ahead of a refused deed.
    steps_within(world, MOST_WORLDS)
    worlds = worlds_along(world, history)
    gaps = [stop - before for before, stop in zip(starts, stops)]
    sightings = [
        (moment, lamp, worlds[stop].light(lamp)) for moment, stop in enumerate(stops, start=1) for lamp in lamps
    ]
    return Diary(world, gaps, sightings)


def fits(diary):
    """True if the diary has a run, otherwise False."""
    return is_fitting(diary, diary_steps(diary), diary.sightings)


def worlds_at(diary, moment):
    """The list of the worlds that some run has at the moment, ordered by their rows."""
    check_number(moment)
    check_between(moment, 0, diary.moments)
    rows = rows_of_runs(diary, diary_steps(diary))[moment]
    return [World.of_row(diary.start.web, row) for row in rows]


def may_burn(diary, moment, lamp):
    """The ascending list of the lights that the lamp has at the moment in some run."""
    check_number(moment)
    check_lamp(diary.start.web, lamp)
    return sorted({world.light(lamp) for world in worlds_at(diary, moment)})


def must_burn(diary, moment, lamp):
    """The light that the lamp has at the moment in each run; None if there is not exactly one."""
    lights = may_burn(diary, moment, lamp)
    return lights[0] if len(lights) == 1 else None


def run_of(diary):
    """A run, a list of Worlds; None if the diary does not fit."""
    steps = diary_steps(diary)
    rows = rows_of_runs(diary, steps)
    if len(rows[0]) == 0:
        return None
    run = [diary.start.row]
    for gap, fitting in zip(diary.gaps, rows[1:]):
        in_time = rows_within(steps, [run[-1]], gap)
        run.append([row for row in fitting if row in in_time][0])
    return [World.of_row(diary.start.web, row) for row in run[1:]]


def is_run(diary, worlds):
    """True if the worlds are a run of the diary, otherwise False."""
    if len(worlds) != diary.moments:
        return False
    steps = diary_steps(diary)
    before = diary.start.row
    for moment, world in enumerate(worlds, start=1):
        if not world.web == diary.start.web:
            return False
        in_time = rows_within(steps, [before], diary.gaps[moment - 1])
        if world.row not in rows_seen(in_time, seen_at(diary, moment, diary.sightings)):
            return False
        before = world.row
    return True
