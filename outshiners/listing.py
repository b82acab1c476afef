"""All futures of a world, and all histories of one length between two worlds (points 27 and 28)."""
from outshiners.aims import check_coming, first_obstacle
from outshiners.checks import check_between, check_same_web
from outshiners.deeds import at_rest, is_history, possible, take
from outshiners.faults import TooLarge
from outshiners.joinings import fewest_deeds
from outshiners.spans import check_number, check_open_number

MOST_FUTURES = 400
MOST_WORLDS = 100
MOST_HISTORIES = 400
MOST_DEEDS = 100


def futures_within(world, most):
    """The futures of the world, ordered by their rows; raise TooLarge if they are more than most."""
    found = {world.row: world}
    waiting = [world]
    while waiting:
        now = waiting.pop()
        for bond in possible(now):
            after = take(now, bond)
            if after.row not in found:
                found[after.row] = after
                waiting.append(after)
        if len(found) > most:
            raise TooLarge(most)
    return [found[row] for row in sorted(found)]


def futures(world):
    """The list of all worlds that come of the world, ordered by their rows."""
    return futures_within(world, MOST_FUTURES)


def count_futures(world):
    """The count of the futures."""
    return len(futures(world))


def rests(world):
    """The list of the futures that are at rest, in order."""
    return [future for future in futures(world) if at_rest(future)]


def rank_of(world, other):
    """The place of other among the futures of the world; raise NotComing if it is none."""
    check_same_web(world, other)
    rows = [future.row for future in futures(world)]
    check_coming(world, other)
    return rows.index(other.row)


def world_at(world, rank):
    """The future with this rank."""
    check_number(rank)
    found = futures(world)
    check_between(rank, 0, len(found) - 1)
    return found[rank]


def between(first, second):
    """The list of the worlds that come of first and of which second comes, in order."""
    check_same_web(first, second)
    found = futures(first)
    check_coming(first, second)
    return [future for future in found if first_obstacle(future, second) is None]


def steps_of(first):
    """The dict from the row of each future to its pairs (bond, row after the deed); raise TooLarge."""
    return {
        world.row: [(bond, take(world, bond).row) for bond in possible(world)]
        for world in futures_within(first, MOST_WORLDS)
    }


def ways_on(steps, goal, deeds):
    """For each count of deeds up to this one, a dict from rows to the count of histories from there to the goal."""
    counts = [{row: 1 if row == goal else 0 for row in steps}]
    for _ in range(deeds):
        before = counts[-1]
        counts.append({row: sum([before[after] for _, after in steps[row]]) for row in steps})
    return counts


def asked_ways(first, second, deeds):
    """The pair (steps, ways on) for the histories from first to second; raise what is wrong with the arguments."""
    check_same_web(first, second)
    if deeds is not None:
        check_between(deeds, 0, MOST_DEEDS)
    steps = steps_of(first)
    check_coming(first, second)
    many = fewest_deeds(first, second) if deeds is None else deeds
    return (steps, ways_on(steps, second.row, many))


def count_histories(first, second, *, deeds=None):
    """The count of the histories from first to second with exactly this count of deeds; None means the fewest."""
    check_open_number(deeds)
    _, counts = asked_ways(first, second, deeds)
    return counts[-1][first.row]


def histories(first, second, *, deeds=None):
    """The list of these histories in order; raise TooLarge if they are too many."""
    check_open_number(deeds)
    steps, counts = asked_ways(first, second, deeds)
    if counts[-1][first.row] > MOST_HISTORIES:
        raise TooLarge(MOST_HISTORIES)
    begun = [([], first.row)]
    for left in counts[:-1][::-1]:
        begun = [
            (history + [bond], after)
            for history, row in begun
            for bond, after in steps[row]
            if left[after] > 0
        ]
    # Without a history of this length the beginning alone must not stay.
    return [history for history, row in begun if row == second.row]


def history_at(first, second, rank, *, deeds=None):
    """The history with this place among them; raise OutOfRange if there is none."""
    check_number(rank)
    check_open_number(deeds)
    steps, counts = asked_ways(first, second, deeds)
    check_between(rank, 0, counts[-1][first.row] - 1)
    history = []
    row = first.row
    skipped = rank
    for left in counts[:-1][::-1]:
        bond, row, skipped = next_step(steps[row], left, skipped)
        history.append(bond)
    return history


def next_step(choices, left, skipped):
    """The tuple (bond, row after it, how many histories are still to be skipped behind it)."""
    for bond, after in choices:
        if skipped < left[after]:
            break
        skipped -= left[after]
    return (bond, after, skipped)


def history_rank(first, second, history):
    """The place of the history among those of its length from first to second; None if it is none."""
    check_same_web(first, second)
    steps = steps_of(first)
    if not is_history(first, second, history):
        return None
    counts = ways_on(steps, second.row, len(history))
    rank = 0
    row = first.row
    for bond, left in zip(history, counts[:-1][::-1]):
        rank += sum([left[after] for other, after in steps[row] if other < bond])
        row = [after for other, after in steps[row] if other == bond][0]
    return rank
