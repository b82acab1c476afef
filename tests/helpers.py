"""What several test files need: an exact comparison, checks of errors and of calls, worlds, and searches by the words."""
import copy
import functools
import itertools
import random
import unittest

from outshiners.diaries import Diary
from outshiners.pieces import Piece
from outshiners.webs import Web
from outshiners.worlds import World

LIMIT = 10 ** 12


def same(left, right):
    """True if the values are equal and of the same kinds at every depth (True is not 1)."""
    if type(left) is not type(right):
        return False
    if isinstance(left, (list, tuple)):
        return len(left) == len(right) and all(same(a, b) for a, b in zip(left, right))
    if isinstance(left, dict):
        return same(list(left), list(right)) and same(list(left.values()), list(right.values()))
    return bool(left == right)


class Paper(tuple):
    """A mark for what is only passed as a tuple: a paper, or a reason of a cut row."""


def plain(value):
    """The same value with Python's own tuple in the place of each mark."""
    if isinstance(value, dict):
        return {key: plain(item) for key, item in value.items()}
    if isinstance(value, list):
        return [plain(item) for item in value]
    return tuple(plain(item) for item in value) if isinstance(value, tuple) else value


def listed(value):
    """The same value with a list in the place of each tuple, at every depth but in papers."""
    if isinstance(value, dict):
        return {key: listed(item) for key, item in value.items()}
    if isinstance(value, (list, tuple)) and not isinstance(value, Paper):
        return [listed(item) for item in value]
    return plain(value)


def tupled(value):
    """The same value with a tuple in the place of each list, at every depth."""
    if isinstance(value, dict):
        return {key: tupled(item) for key, item in value.items()}
    if isinstance(value, (list, tuple)):
        return tuple(tupled(item) for item in value)
    return value


class Case(unittest.TestCase):
    """A test case with the comparisons that the document asks for."""

    def assertSame(self, found, wanted):
        if not same(found, wanted):
            self.fail(f"{found!r} is not exactly {wanted!r}")

    def assertFails(self, error, attributes, call, *args, **named):
        """The call raises exactly this class, with exactly these attributes."""
        try:
            found = call(*args, **named)
        except Exception as raised:
            self.assertIs(type(raised), error)
            self.assertSame(vars(raised), attributes)
        else:
            self.fail(f"no {error.__name__}, but {found!r}")

    def assertCall(self, call, names, values, wanted):
        """The call gives the answer by position, by name in any order, and again; it changes nothing."""
        forms = [[other(value) for value in values] for other in (listed, tupled)]
        values = plain(list(values))
        before = copy.deepcopy(values)
        many = len(values)
        for split in range(many + 1):
            named = dict(reversed(list(zip(names[split:], values[split:]))))
            self.assertSame(call(*values[:split], **named), wanted)
        for form in forms:
            self.assertSame(call(*form), wanted)
        self.assertSame(values, before)

    def assertFreshDict(self, hand_out):
        """A dict that is handed out can be changed without effect on the next answer."""
        first = hand_out()
        kept = copy.deepcopy(first)
        first.clear()
        first["zz"] = "changed"
        self.assertSame(hand_out(), kept)

    def assertFreshList(self, hand_out):
        """What is handed out can be changed without effect on the next answer."""
        first = hand_out()
        kept = copy.deepcopy(first)
        first.append("changed")
        first.reverse()
        self.assertSame(hand_out(), kept)
        second = hand_out()
        second.clear()
        self.assertSame(hand_out(), kept)


def sample_web():
    """The web W of the document."""
    return Web([("a", None), ("b", 4), ("c", None)], [("k", "a", "b", None, None), ("m", "b", "c", 0, 3)])


def sample_world():
    """The world S of the document."""
    return World(sample_web(), {"a": 5, "b": 1, "c": 3})


def path_world():
    """Four lamps in a row, joined by p, q and r; r is doubled by s, which lets nothing below 7 pass."""
    web = Web(
        [("a", None), ("b", None), ("c", 8), ("d", 6)],
        [("p", "a", "b", None, None), ("q", "b", "c", None, 9), ("r", "c", "d", 2, None), ("s", "c", "d", 7, None)],
    )
    return World(web, {"a": 5, "b": 3, "c": 1, "d": 0})


def worlds_over(web, lights):
    """All worlds over the web in which each lamp has one of the lights."""
    rows = [()]
    for _ in web.lamps:
        rows = [row + (light,) for row in rows for light in lights]
    return [World.of_row(web, row) for row in rows]


def steps_by_words(world):
    """The pairs (bond, World after it) of all possible deeds, found by nothing but the words of points 11 and 12."""
    found = []
    lights = world.lights
    for bond, low_end, high_end, low, high in world.web.bond_rows:
        for giver, taker in ((low_end, high_end), (high_end, low_end)):
            light = lights[giver]
            if light <= lights[taker] or (low is not None and light < low) or (high is not None and light > high):
                continue
            ceiling = world.web.ceiling(taker)
            if ceiling is not None and light > ceiling:
                continue
            found.append((bond, World(world.web, {**lights, taker: light})))
    return found


def histories_of(world):
    """All histories of the world."""
    found = [()]
    for bond, after in steps_by_words(world):
        found.extend((bond,) + rest for rest in histories_of(after))
    return found


def lengths_by_words(world):
    """The dict from the row of each future to the set of the lengths of the histories that lead to it."""
    found = {}
    now = {world.row: world}
    length = 0
    while now:
        for row in now:
            found.setdefault(row, set()).add(length)
        now = {after.row: after for before in now.values() for _, after in steps_by_words(before)}
        length += 1
    return found


def futures_by_words(world):
    """All futures of the world, in the order of their rows."""
    return [World.of_row(world.web, row) for row in sorted(lengths_by_words(world))]


def passes(low, high, light):
    """True if the light is between the two ends, of which None bounds nothing."""
    return (low is None or low <= light) and (high is None or light <= high)


def field_by_words(world, caps, light):
    """The set of the lamps of the field."""
    return {lamp for lamp in world.web if passes(world.light(lamp), caps[lamp], light)}


def joined_by_words(world, light, lamps):
    """The sets of those lamps that bonds that let the light pass join with one another, over these lamps."""
    lamps = set(lamps)
    parts = [{lamp} for lamp in sorted(lamps)]
    for _, first, second, low, high in world.web.bond_rows:
        if first in lamps and second in lamps and passes(low, high, light):
            left = next(part for part in parts if first in part)
            right = next(part for part in parts if second in part)
            if left is not right:
                parts.remove(right)
                left |= right
    return sorted(parts, key=min)


def hanging_by_words(world, caps, light):
    """The set of the lamps that hang."""
    parts = joined_by_words(world, light, field_by_words(world, caps, light))
    return set().union(*[part for part in parts if any(world.light(lamp) == light for lamp in part)])


def is_hung_by_words(world, caps, light, lamps):
    """True if the set of lamps is hung for the light."""
    field = field_by_words(world, caps, light)
    springs = {lamp for lamp in field if world.light(lamp) == light}
    if not set(lamps) <= field - springs:
        return False
    parts = joined_by_words(world, light, set(lamps) | springs)
    return all(part & springs for part in parts)


def subsets(items):
    """All lists of some of the items, in their order, the smaller ones first."""
    items = list(items)
    return [list(some) for size in range(len(items) + 1) for some in itertools.combinations(items, size)]


def random_world(rng, most_lamps=4, most_bonds=5, lights=4):
    """Any world with few lamps, bonds and lights."""
    lamps = "abcdefghij"[:rng.randint(1, most_lamps)]
    ends = [None] * 4 + list(range(-1, lights + 1))
    lamp_rows = [(lamp, rng.choice([None, None] + list(range(lights + 1)))) for lamp in lamps]
    bond_rows = []
    if len(lamps) > 1:
        for number in range(rng.randint(0, most_bonds)):
            low, high = rng.choice(ends), rng.choice(ends)
            if low is not None and high is not None and low > high:
                low, high = high, low
            bond_rows.append((f"k{number}", *rng.sample(lamps, 2), low, high))
    return World(Web(lamp_rows, bond_rows), {lamp: rng.randrange(lights) for lamp in lamps})


@functools.lru_cache(maxsize=None)
def small_worlds(many=120, seed=1, most_lamps=4, most_bonds=5, lights=4):
    """A tuple of many small worlds, the same ones in each run of one Python."""
    rng = random.Random(seed)
    return tuple(random_world(rng, most_lamps, most_bonds, lights) for _ in range(many))


def random_caps(rng, world, lights=4):
    """Any caps for the world."""
    return {lamp: rng.choice([None] + list(range(-1, lights + 1))) for lamp in world.web}


def random_pair(rng, world, lights=4):
    """A world over the same web that is often, but not always, a future of the world."""
    found = world
    for _ in range(rng.randint(0, 8)):
        steps = steps_by_words(found)
        if steps:
            found = rng.choice(steps)[1]
    if rng.random() < 0.4:
        found = found.with_light(rng.choice(found.web.lamps), rng.randrange(lights))
    return found


def random_pairs(many=400, seed=2, **sizes):
    """Many pairs of worlds over one web."""
    rng = random.Random(seed)
    pairs = []
    for _ in range(many):
        world = random_world(rng, **sizes)
        pairs.append((world, random_pair(rng, world)))
    return pairs


def random_wish(rng, world, lights=4):
    """Any wish for the world, often one that is granted."""
    found = random_pair(rng, world, lights)
    return {lamp: found.light(lamp) for lamp in rng.sample(found.web.lamps, rng.randint(0, len(found.web.lamps)))}


def random_wishes(many=400, seed=3, **sizes):
    """Many pairs of a world and a wish."""
    rng = random.Random(seed)
    pairs = []
    for _ in range(many):
        world = random_world(rng, **sizes)
        pairs.append((world, random_wish(rng, world)))
    return pairs


def granting_by_words(world, wish):
    """All worlds that grant the wish, in the order of their rows."""
    return [end for end in futures_by_words(world) if all(end.light(lamp) == light for lamp, light in wish.items())]


def web_of(lamps, bonds):
    """A web of lamps without ceilings, and of bonds that are told as `ab` or as (ends, low, high)."""
    rows = []
    for number, bond in enumerate(bonds):
        ends, low, high = bond if isinstance(bond, tuple) else (bond, None, None)
        rows.append((f"k{number:02}", ends[0], ends[1], low, high))
    return Web([(lamp, None) for lamp in lamps], rows)


def large_world():
    """Ten lamps and 16 bonds: a wheel with five spokes and open groups around one spring of each of two lights."""
    web = web_of("abcdefghij", [
        "ab", "ac", "ad", "ae", "af", "bc", "cd", "de", "ef", "bf", "bg", "ch", "di", "ej", "gh", "ij",
    ])
    return World(web, {lamp: light for lamp, light in zip("abcdefghij", (9, 0, 0, 0, 0, 7, 0, 0, 1, 2))})


def fed(counts):
    """A world in which lamps of light 0 are joined to so many brighter lamps each, which themselves take nothing.

    Each lamp can have its own light or one of those, so that the futures are the product of the counts plus one.
    """
    takers = [(f"a{place}", None) for place in range(len(counts))]
    givers = [(f"z{number}", 0) for number in range(max(counts))]
    bonds = [
        (f"k{place}{number}", f"a{place}", f"z{number}", None, None)
        for place, count in enumerate(counts) for number in range(count)
    ]
    web = Web(takers + givers, bonds)
    return World(web, {lamp: 0 if lamp[0] == "a" else 1 + int(lamp[1]) for lamp in web})


def world_with(many):
    """A world with exactly so many futures: 100, 101, 400 or 401."""
    if many == 100:
        return fed((3, 4, 4))
    if many == 400:
        return fed((3, 3, 4, 4))
    # 101 and 401 are prime numbers; these worlds were found by a search.
    if many == 101:
        bonds = [("cg", None, 5), ("ce", None, 5), ("bd", None, 3), "cf", "df", "ef", ("bc", None, 5), "fg", "ae"]
        return World.of_row(web_of("abcdefg", bonds + [("ac", None, 3)]), (5, 3, 3, 2, 2, 2, 6))
    bonds = [("bg", None, 5), ("df", None, 3), ("ae", None, 5), "de", "dg", "ef", "cf", "bh", "ac", "fh"]
    return World.of_row(web_of("abcdefgh", bonds), (1, 0, 1, 5, 4, 2, 5, 2))


def end_of(world):
    """The world at rest in which each lamp has the greatest light that it can get."""
    return max(futures_by_words(world), key=lambda future: sum(future.row))


def random_piece(rng, most_lamps=6, most_bonds=8):
    """Any piece with few lights."""
    world = random_world(rng, most_lamps, most_bonds)
    lamps = world.web.lamps
    return Piece(world, rng.sample(lamps, rng.randint(0, min(3, len(lamps)))))


def with_fewer(rng, piece, most=3):
    """The piece without some inner lamps and bonds."""
    for _ in range(rng.randint(0, most)):
        web = piece.world.web
        lamps = piece.inner if len(web.lamps) > 1 else []
        parts = [piece.without_lamp(lamp) for lamp in lamps] + [piece.without_bond(bond) for bond in web.bonds]
        if parts:
            piece = rng.choice(parts)
    return piece


def random_surrounding(rng, piece, lights=4):
    """Any piece that can be glued to this one, with its border and with names of its own."""
    inner = [f"y{number}" for number in range(rng.randint(0 if piece.border else 1, 3))]
    lamp_rows = [(lamp, ceiling) for lamp, _, ceiling in piece.border_rows]
    lamp_rows += [(lamp, rng.choice([None, None] + list(range(lights + 1)))) for lamp in inner]
    names = [lamp for lamp, _ in lamp_rows]
    ends = [None] * 4 + list(range(lights))
    bond_rows = []
    if len(names) > 1:
        for number in range(rng.randint(0, 4)):
            low, high = rng.choice(ends), rng.choice(ends)
            if low is not None and high is not None and low > high:
                low, high = high, low
            bond_rows.append((f"y{number}", *rng.sample(names, 2), low, high))
    shone = {lamp: light for lamp, light, _ in piece.border_rows}
    shone.update({lamp: rng.randrange(lights) for lamp in inner})
    return Piece(World(Web(lamp_rows, bond_rows), shone), piece.border)


def random_diary(rng, most_moments=3, most_sightings=4, lights=4):
    """Any small diary, often one that fits."""
    ends = []
    while len(ends) < 3:
        start = random_world(rng, 4, 5, lights)
        ends = futures_by_words(start)
    gaps = [rng.choice([None, 0, 1, 1, 1, 2]) for _ in range(rng.randint(1, most_moments))]
    seen = {}
    for _ in range(rng.randint(0, most_sightings)):
        lamp = rng.choice(start.web.lamps)
        seen[(rng.randint(1, len(gaps)), lamp)] = rng.choice(ends).light(lamp)
    return Diary(start, gaps, [(moment, lamp, light) for (moment, lamp), light in seen.items()])


def runs_by_words(start, gaps, sightings):
    """All runs by the words of point 36, as lists of rows."""
    runs = [[start.row]]
    for moment, gap in enumerate(gaps, start=1):
        longer = []
        for run in runs:
            for row, lengths in sorted(lengths_by_words(World.of_row(start.web, run[-1])).items()):
                lights = dict(zip(start.web.lamps, row))
                holds = all(lights[lamp] == light for when, lamp, light in sightings if when == moment)
                if holds and (gap is None or min(lengths) <= gap):
                    longer.append(run + [row])
        runs = longer
    return [run[1:] for run in runs]


def random_statement(rng, lamps, depth, in_each, lights):
    """Any right statement that may stand at this depth; a deeper one has fewer statements in it."""
    names = list(lamps) + (["*", "*"] if in_each else [])
    words = ["light", "offer", "offer", "spread"] + (["until", "each"] if depth < 3 else ["until"])
    word = rng.choice(words if len(set(names)) > 1 else ["spread", "until", "each"])
    if word in ("light", "offer"):
        return (word, *rng.sample(sorted(set(names)), 2))
    if word == "spread":
        return (word, rng.randint(0, lights))
    more = 0 if depth == 3 else rng.randint(0, 3)
    if word == "until":
        body = [random_statement(rng, lamps, depth + 1, in_each, lights) for _ in range(more)]
        return (word, rng.choice(names), rng.randint(0, lights), tuple(body))
    body = [random_statement(rng, lamps, depth + 1, True, lights) for _ in range(more)]
    return (word, tuple(rng.sample(lamps, rng.randint(1, min(4, len(lamps))))), tuple(body))


def count_statements(body):
    """The count of all statements, those in bodies counted."""
    return sum(1 + (count_statements(row[-1]) if row[0] in ("until", "each") else 0) for row in body)


def random_errand(rng, lamps="abcd", most=4, lights=4):
    """The statements of any errand with at most 16 statements."""
    while True:
        found = tuple(random_statement(rng, list(lamps), 1, False, lights) for _ in range(rng.randint(0, most)))
        if count_statements(found) <= 16:
            return found


def places_by_words(body, around=()):
    """The pairs (place, statement) in reading order."""
    found = []
    for at, row in enumerate(body):
        found.append((around + (at,), row))
        if row[:1] in (("until",), ("each",)) and isinstance(row[-1], tuple):
            found += places_by_words(row[-1], around + (at,))
    return found


def with_statement(body, place, statement):
    """The same statements with another one at the place; None instead of a statement takes it away."""
    at, *deeper = place
    if deeper:
        row = body[at]
        put = (row[:-1] + (with_statement(row[-1], deeper, statement),),)
    else:
        put = () if statement is None else (statement,)
    return body[:at] + put + body[at + 1:]
