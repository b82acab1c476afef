"""Which sightings of a diary cannot all be right (point 36)."""
from itertools import combinations

from outshiners.checks import check_between
from outshiners.moments import diary_steps, places_fitting
from outshiners.spans import check_number, is_number

MOST_WRONG = 2


def places_of(diary):
    """The list of the places of all sightings of the diary."""
    return list(range(len(diary.sightings)))


def first_misfit(diary):
    """The least place up to which the sightings alone do not fit; None if all of them do."""
    steps = diary_steps(diary)
    for place in places_of(diary):
        if not places_fitting(diary, steps, list(range(place + 1))):
            return place
    return None


def conflict(diary):
    """The ascending list of the places of a conflict; None if the diary fits."""
    steps = diary_steps(diary)
    places = places_of(diary)
    if places_fitting(diary, steps, places):
        return None
    for place in places_of(diary)[::-1]:
        others = [other for other in places if other != place]
        if not places_fitting(diary, steps, others):
            places = others
    return places


def is_conflict(diary, places):
    """True if the places are ascending and those of a conflict, otherwise False."""
    known = places_of(diary)
    if not all([is_number(place) and place in known for place in places]):
        return False
    if list(places) != sorted(set(places)):
        return False
    steps = diary_steps(diary)
    if places_fitting(diary, steps, places):
        return False
    lesser = [[other for other in places if other != place] for place in places]
    return all([places_fitting(diary, steps, others) for others in lesser])


def wrong_sightings(diary, *, most=2):
    """The least list of the fewest places without which the diary fits; None if they are more than most."""
    check_number(most)
    check_between(most, 0, MOST_WRONG)
    steps = diary_steps(diary)
    places = places_of(diary)
    for size in range(most + 1):
        for wrong in combinations(places, size):
            if places_fitting(diary, steps, [place for place in places if place not in wrong]):
                return list(wrong)
    return None
