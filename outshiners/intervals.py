"""Longest intervals of numbers on which an answer is the same, of arguments that are checked already."""
from outshiners.spans import LIMIT


def turning_numbers(world, caps):
    """The ascending list of the least number and of all others at which groups or springs can become different."""
    lows = [row[3] for row in world.web.bond_rows]
    highs = [row[4] for row in world.web.bond_rows]
    begun = list(world.row) + [low for low in lows if low is not None]
    ended = [end + 1 for end in list(world.row) + highs + list(caps.values()) if end is not None]
    return sorted(set([-LIMIT] + [number for number in begun + ended if -LIMIT < number <= LIMIT]))


def longest_intervals(answers):
    """The list of (low, high, answer) for pairs (number, answer) that begin with the least number and ascend.

    The first low and the last high are None.
    """
    firsts = []
    for number, answer in answers:
        if len(firsts) == 0 or firsts[-1][1] != answer:
            firsts.append((number, answer))
    lows = [None] + [number for number, _ in firsts[1:]]
    highs = [number - 1 for number, _ in firsts[1:]] + [None]
    return [(low, high, answer) for low, high, (_, answer) in zip(lows, highs, firsts)]
