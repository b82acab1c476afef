"""All that can come of a world, by rows alone (points 11 to 13), of arguments that are checked already.

A world with many futures is asked for all their deeds; so nothing here makes a World or asks a web more than once.
"""
from outshiners.faults import TooLarge
from outshiners.spans import LIMIT


def arcs_of(web):
    """The list of (bond, place of the giver, place of the taker, low, high, ceiling of the taker) in name order.

    Each bond has two arcs, one for each direction. In the place of None stands the number that bounds nothing.
    """
    places = lamp_places(web)
    arcs = []
    for bond, first, second, low, high in web.bond_rows:
        least = -LIMIT if low is None else low
        for giver, taker in ((first, second), (second, first)):
            arcs.append((bond, places[giver], places[taker], least, upper(high), upper(web.ceiling(taker))))
    return arcs


def lamp_places(web):
    """The dict from the lamps of the web to their places in a row."""
    return {lamp: place for place, lamp in enumerate(web)}


def upper(end):
    """The high or the ceiling; the greatest number if it is None."""
    return LIMIT if end is None else end


def useful_arcs(world):
    """The list of (bond, place of the giver, place of the taker, low, high) of the arcs that let a borne light pass.

    The taker's ceiling counts as a high here.
    """
    arcs = [
        (bond, giver, taker, low, min(high, ceiling))
        for bond, giver, taker, low, high, ceiling in arcs_of(world.web)
    ]
    lights = world.borne
    return [arc for arc in arcs if any([arc[3] <= light <= arc[4] for light in lights])]


def steps_within(world, most):
    """The dict from the row of each future to the list of its pairs (bond, row after the deed), in name order.

    Raise TooLarge if the futures are more than most.
    """
    arcs = useful_arcs(world)
    steps = {world.row: []}
    waiting = [world.row]
    while waiting:
        row = waiting.pop()
        found = steps[row]
        for bond, giver, taker, low, high in arcs:
            light = row[giver]
            if row[taker] < light and low <= light <= high:
                after = row[:taker] + (light,) + row[taker + 1:]
                found.append((bond, after))
                if after not in steps:
                    steps[after] = []
                    waiting.append(after)
        if len(steps) > most:
            raise TooLarge(most)
    return steps


def rows_within(steps, starts, deeds):
    """The list of the rows to which at most so many deeds lead from one of the starts; None means any count.

    `steps` may also be the dict of rows_before: then these are the rows from which they lead to one of the starts.
    """
    found = {row: True for row in starts}
    edge = list(found)
    done = 0
    while edge and done != deeds:
        others = [other for row in edge for _, other in steps[row]]
        edge = sorted({row for row in others if row not in found})
        for row in edge:
            found[row] = True
        done += 1
    return list(found)


def rows_before(steps):
    """The dict from each row to the list of the pairs (bond, row ahead of the deed) of the deeds that lead to it."""
    before = {row: [] for row in steps}
    for row, pairs in steps.items():
        for bond, after in pairs:
            before[after].append((bond, row))
    return before
