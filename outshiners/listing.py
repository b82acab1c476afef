"""All futures of a world, and all histories of one length between two worlds (points 27 and 28)."""
from outshiners.aims import check_coming
from outshiners.checks import check_between, check_same_web
from outshiners.faults import TooLarge
from outshiners.joinings import fewest_deeds
from outshiners.reach import rows_before, rows_within, steps_within
from outshiners.spans import check_number, check_open_number
from outshiners.worlds import World

MOST_FUTURES = 400
MOST_WORLDS = 100
MOST_HISTORIES = 400
MOST_DEEDS = 100


def worlds_of(web, rows):
    """The list of the Worlds with these rows, in the order of the rows."""
    return [World.of_row(web, row) for row in sorted(rows)]


def futures(world):
    """The list of all worlds that come of the world, ordered by their rows."""
    return worlds_of(world.web, steps_within(world, MOST_FUTURES))


def count_futures(world):
    """The count of the futures."""
    return len(steps_within(world, MOST_FUTURES))


def rests(world):
    """The list of the futures that are at rest, in order."""
    steps = steps_within(world, MOST_FUTURES)
    return worlds_of(world.web, [row for row in steps if len(steps[row]) == 0])


def steps_to(first, second, most):
    """The steps between all futures of first; raise WebsDiffer, TooLarge, or NotComing if second is none of them."""
    check_same_web(first, second)
    steps = steps_within(first, most)
    if second.row not in steps:
        check_coming(first, second)
    return steps


def rank_of(world, other):
    """The place of other among the futures of the world; raise NotComing if it is none."""
    return sorted(steps_to(world, other, MOST_FUTURES)).index(other.row)


def world_at(world, rank):
    """The future with this rank."""
    check_number(rank)
    rows = sorted(steps_within(world, MOST_FUTURES))
    check_between(rank, 0, len(rows) - 1)
    return World.of_row(world.web, rows[rank])


def between(first, second):
    """The list of the worlds that come of first and of which second comes, in order."""
    before = rows_before(steps_to(first, second, MOST_FUTURES))
    return worlds_of(first.web, rows_within(before, [second.row], None))


def ways_on(steps, goal, deeds):
    """For each count of deeds up to this one, the dict from rows to the count of histories from there to the goal.

    Rows without such a history are no keys.
    """
    before = rows_before(steps)
    counts = [{goal: 1}]
    for _ in range(deeds):
        longer = {}
        for row, many in counts[-1].items():
            for _, earlier in before[row]:
                longer[earlier] = longer.get(earlier, 0) + many
        counts.append(longer)
    return counts


def asked_ways(first, second, deeds):
    """The pair (steps, ways on) for the histories from first to second; raise what is wrong with the arguments."""
    check_same_web(first, second)
    if deeds is not None:
        check_between(deeds, 0, MOST_DEEDS)
    steps = steps_to(first, second, MOST_WORLDS)
    many = fewest_deeds(first, second) if deeds is None else deeds
    return (steps, ways_on(steps, second.row, many))


def count_histories(first, second, *, deeds=None):
    """The count of the histories from first to second with exactly this count of deeds; None means the fewest."""
    check_open_number(deeds)
    _, counts = asked_ways(first, second, deeds)
    return counts[-1].get(first.row, 0)


def histories(first, second, *, deeds=None):
    """The list of these histories in order; raise TooLarge if they are too many."""
    check_open_number(deeds)
    steps, counts = asked_ways(first, second, deeds)
    if counts[-1].get(first.row, 0) > MOST_HISTORIES:
        raise TooLarge(MOST_HISTORIES)
    begun = [([], first.row)]
    for left in counts[:-1][::-1]:
        begun = [
            (history + [bond], after)
            for history, row in begun
            for bond, after in steps[row]
            if after in left
        ]
    # Without a history of this length the beginning alone must not stay.
    return [history for history, row in begun if row == second.row]


def history_at(first, second, rank, *, deeds=None):
    """The history with this place among them; raise OutOfRange if there is none."""
    check_number(rank)
    check_open_number(deeds)
    steps, counts = asked_ways(first, second, deeds)
    check_between(rank, 0, counts[-1].get(first.row, 0) - 1)
    history = []
    row = first.row
    skipped = rank
    for left in counts[:-1][::-1]:
        bond, row, skipped = next_step(steps[row], left, skipped)
        history.append(bond)
    return history


def next_step(choices, left, skipped):
    """The tuple (bond, row after it, how many histories are still to be skipped behind it)."""
    for bond, after in choices:
        if skipped < left.get(after, 0):
            break
        skipped -= left.get(after, 0)
    return (bond, after, skipped)


def history_rank(first, second, history):
    """The place of the history among those of its length from first to second; None if it is none."""
    check_same_web(first, second)
    steps = steps_within(first, MOST_WORLDS)
    rows = rows_along_steps(steps, first.row, history)
    if rows is None or rows[-1] != second.row:
        return None
    counts = ways_on(steps, second.row, len(history))
    rank = 0
    for row, bond, left in zip(rows, history, counts[:-1][::-1]):
        rank += sum([left.get(after, 0) for other, after in steps[row] if other < bond])
    return rank


def rows_along_steps(steps, row, history):
    """The list of the rows before the first deed and after each one; None if a deed is refused."""
    rows = [row]
    for bond in history:
        after = dict(steps[rows[-1]]).get(bond)
        if after is None:
            return None
        rows.append(after)
    return rows
