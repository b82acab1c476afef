"""Which worlds the runs of a diary have at its moments (points 35 and 36), by rows alone.

`diary` is one that is checked already, `steps` is what steps_within tells of its start, and `sightings` are some of its
sightings: what is asked here is asked of the diary with these sightings alone.
"""
from outshiners.reach import rows_before, rows_within, steps_within

MOST_WORLDS = 100


def diary_steps(diary):
    """The dict of the steps between all worlds that come of the start."""
    return steps_within(diary.start, MOST_WORLDS)


def seen_at(diary, moment, sightings):
    """The list of (place of the lamp in a row, light) of what is seen at the moment."""
    lamps = diary.start.web.lamps
    return [(lamps.index(lamp), light) for when, lamp, light in sightings if when == moment]


def rows_seen(rows, seen):
    """The list of those of the rows in which everything holds that is seen."""
    return [row for row in rows if all([row[place] == light for place, light in seen])]


def rows_ahead(diary, steps, sightings):
    """For each moment from 0 on the list of the rows that can be reached by then, as sightings up to then allow."""
    rows = [[diary.start.row]]
    for moment, gap in enumerate(diary.gaps, start=1):
        rows.append(rows_seen(rows_within(steps, rows[-1], gap), seen_at(diary, moment, sightings)))
    return rows


def is_fitting(diary, steps, sightings):
    """True if the diary with these sightings alone fits, otherwise False."""
    return len(rows_ahead(diary, steps, sightings)[-1]) > 0


def rows_of_runs(diary, steps):
    """For each moment from 0 on the ascending list of the rows that some run of the diary has then."""
    ahead = rows_ahead(diary, steps, diary.sightings)
    before = rows_before(steps)
    found = [sorted(ahead[-1])]
    for moment in reversed(range(diary.moments)):
        # From these rows the next moment's rows can be reached in time.
        in_time = rows_within(before, found[-1], diary.gaps[moment])
        found.append(sorted([row for row in in_time if row in ahead[moment]]))
    return found[::-1]


def places_fitting(diary, steps, places):
    """True if the diary with its sightings at these places alone fits, otherwise False."""
    sightings = diary.sightings
    return is_fitting(diary, steps, [sightings[place] for place in places])
