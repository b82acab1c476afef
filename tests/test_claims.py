"""Point 42 and the interface of claims.py."""
import copy
import random
import unittest

from helpers import (
    LIMIT, Case, granting_by_words, large_world, path_world, random_pairs, random_wishes, sample_web, sample_world,
    web_of,
)

from outshiners.claims import claim_fewest, claim_to, claim_wish, is_true
from outshiners.coming import comes, is_obstacle, obstacle
from outshiners.deeds import is_history
from outshiners.faults import BadNumber, NotComing, TooLarge, Unknown, WebsDiffer
from outshiners.joinings import fewest_deeds
from outshiners.tables import fewest_tables, is_fewest
from outshiners.webs import Web
from outshiners.wishes import brightest, granted, is_grant, is_wish_fault, wish_fault
from outshiners.worlds import World

HUGE = LIMIT + 1
NUMBERS = (True, False, HUGE, -HUGE)
NAMES = ("z", "", "No Name", "k")


def plain_kinds(value):
    """True if the value is made of tuples, strings and ints alone, at every depth."""
    if type(value) is tuple:
        return all(plain_kinds(item) for item in value)
    return type(value) in (str, int)


def end_by_words(world, row):
    """The World with this row; None if it is no row of the web."""
    good = len(row) == len(world.web.lamps) and all(type(light) is int and abs(light) <= LIMIT for light in row)
    return World.of_row(world.web, row) if good else None


def wish_by_words(world, told):
    """The wish; None if told has another form than point 42 tells."""
    if any(len(pair) != 2 for pair in told):
        return None
    lamps = [pair[0] for pair in told]
    known = all(lamp in world.web.lamps for lamp in lamps)
    numbers = all(type(pair[1]) is int and abs(pair[1]) <= LIMIT for pair in told)
    return dict(told) if known and numbers and lamps == sorted(set(lamps)) else None


def is_true_by_words(world, claim):
    """The words of point 42."""
    lengths = {"comes": 3, "blocked": 3, "granted": 4, "ungranted": 3, "fewest": 4}
    if not claim or lengths.get(claim[0]) != len(claim):
        return False
    if claim[0] in ("granted", "ungranted"):
        wish = wish_by_words(world, claim[1])
        if wish is None:
            return False
        if claim[0] == "ungranted":
            return is_wish_fault(world, wish, claim[2])
        end = end_by_words(world, claim[2])
        return end is not None and is_grant(world, wish, end, claim[3])
    end = end_by_words(world, claim[1])
    if end is None:
        return False
    if claim[0] == "comes":
        return is_history(world, end, claim[2])
    if claim[0] == "blocked":
        return is_obstacle(world, end, claim[2])
    return is_fewest(world, end, claim[2], claim[3])


def claims(many=120, seed=131):
    """Many pairs of a world and a true claim."""
    found = []
    for first, second in random_pairs(many, seed=seed):
        found.append((first, claim_to(first, second)))
        if comes(first, second):
            found.append((first, claim_fewest(first, second)))
    for world, wish in random_wishes(many, seed=seed + 1):
        found.append((world, claim_wish(world, wish)))
    return found


def fewest_claim():
    """A world and a claim with tables that have open groups."""
    web = Web([(lamp, None) for lamp in "pqrs"], [("e", "p", "s", None, None), ("f", "p", "q", None, 5), ("g", "p", "r", None, None)])
    world = World(web, {"p": 1, "q": 1, "r": 7, "s": 5})
    return world, claim_fewest(world, World(web, {"p": 7, "q": 5, "r": 7, "s": 5}))


def spoilt(value, names):
    """The values that have one other item than this one somewhere, or one too few or too many."""
    if type(value) is str:
        return [name for name in names if name != value]
    if type(value) is not tuple:
        return [value + 1, value - 1, HUGE, -HUGE, True, False]
    found = [value[:-1], value[1:]] if value else []
    found += [value + (item,) for item in value[-1:]]
    found += [value + ("a",)] if value and type(value[0]) is str else []
    found += [value[::-1]] if value and len({type(item) for item in value}) == 1 else []
    for place, item in enumerate(value):
        for other in spoilt(item, names):
            found.append(value[:place] + (other,) + value[place + 1:])
    return found


class Judged(Case):
    def test_words(self):
        world = sample_world()
        after = (5, 3, 3)
        for claim, wanted in [
            (("comes", after, ("m",)), True), (("comes", after, ()), False), (("comes", (5, 1, 3), ()), True),
            (("comes", after, ("k",)), False), (("comes", after, ("m", "m")), False), (("comes", after, ("zz",)), False),
            (("blocked", (5, 3, 5), ("shade", "c", ("c",))), True), (("blocked", (4, 1, 3), ("dimmer", "a")), True),
            (("blocked", (5, 5, 3), ("ceiling", "b")), True), (("blocked", after, ("ceiling", "b")), False),
            (("blocked", (5, 3, 5), ("shade", "c", ("b", "c"))), False), (("blocked", (5, 3, 5), ()), False),
            (("granted", (("b", 3),), after, ("m",)), True), (("granted", (), after, ("m",)), True),
            (("granted", (("b", 1),), after, ("m",)), False), (("granted", (("b", 3),), after, ()), False),
            (("granted", (("a", 5), ("b", 3)), after, ("m",)), True), (("granted", (("b", 3), ("a", 5)), after, ("m",)), False),
            (("granted", (("b", 3), ("b", 3)), after, ("m",)), False), (("granted", (("z", 3),), after, ("m",)), False),
            (("ungranted", (("b", 5),), ("ceiling", "b")), True), (("ungranted", (("b", 3),), ("ceiling", "b")), False),
            (("ungranted", (("a", 5), ("b", 5)), ("ceiling", "b")), True), (("ungranted", (), ("ceiling", "b")), False),
            (("ungranted", (("b", 5), ("a", 5)), ("ceiling", "b")), False),
            (("ungranted", (("b", 5), ("b", 5)), ("ceiling", "b")), False),
            (("fewest", after, ("m",), ((3, ()),)), True), (("fewest", after, ("m",), ()), False),
            (("fewest", (5, 1, 3), (), ()), True), (("fewest", after, (), ((3, ()),)), False),
        ]:
            self.assertCallPlain(world, claim, wanted)
            self.assertSame(is_true_by_words(world, claim), wanted)

    def assertCallPlain(self, world, claim, wanted):
        before = copy.deepcopy(claim)
        self.assertSame(is_true(world, claim), wanted)
        self.assertSame(is_true(claim=claim, world=world), wanted)
        self.assertSame(claim, before)

    def test_other_words_and_lengths(self):
        world = sample_world()
        for claim in (
            (), ("",), ("word",), ("comes",), ("comes", (5, 3, 3)), ("comes", (5, 3, 3), ("m",), ("m",)), ("Comes", (5, 3, 3), ("m",)),
            ("comes ", (5, 3, 3), ("m",)), ("blocked",), ("blocked", (5, 3, 5), ("shade", "c", ("c",)), ("shade", "c", ("c",))),
            ("granted",), ("granted", ()), ("granted", (), (5, 3, 3)), ("granted", (), (5, 3, 3), ("m",), ("m",)), ("ungranted",),
            ("ungranted", (("b", 5),)), ("ungranted", (("b", 5),), ("ceiling", "b"), ("ceiling", "b")), ("fewest",),
            ("fewest", (5, 3, 3), ("m",)), ("fewest", (5, 3, 3), ("m",), ((3, ()),), ((3, ()),)), ("word", (5, 3, 3), ("m",)),
            ("word", None, True, False, 3, HUGE, "", ((((),),),)), ("word", (None, (True, (3, ("a",))))), ("deed", "m"),
        ):
            self.assertCallPlain(world, claim, False)

    def test_rows(self):
        world = sample_world()
        for row in ((), (5,), (5, 3), (5, 3, 3, 3), (5, True, 3), (5, 3, HUGE), (5, 3, -HUGE), (True, 3, 3), (5, 3, False)):
            for claim in (
                ("comes", row, ("m",)), ("granted", (), row, ("m",)), ("blocked", row, ("dimmer", "a")),
                ("fewest", row, ("m",), ((3, ()),)), ("blocked", row, ("ceiling", "c")),
            ):
                self.assertCallPlain(world, claim, False)
        # True would be the light 1.
        web = Web([("a", None)])
        one = World.of_row(web, (1,))
        self.assertSame([is_true(one, ("comes", (light,), ())) for light in (1, True)], [True, False])
        self.assertSame([is_true(one, ("granted", (("a", light),), (1,), ())) for light in (1, True)], [True, False])
        zero = World.of_row(web, (0,))
        self.assertSame([is_true(zero, ("fewest", (light,), (), ())) for light in (0, False)], [True, False])

    def test_told_pairs(self):
        world = sample_world()
        after = (5, 3, 3)
        for pair in ((), ("b",), ("b", 3, 3), ("b", 3, "b"), (3,), ("b", True), ("b", HUGE), ("z", 3), ("", 3), ("k", 3), ("B", 3)):
            self.assertCallPlain(world, ("granted", (pair,), after, ("m",)), False)
            self.assertCallPlain(world, ("granted", (("a", 5), pair), after, ("m",)), False)
            self.assertCallPlain(world, ("ungranted", (pair, ("c", 9)), ("shade", "c", ("b", "c"))), False)
        self.assertCallPlain(world, ("ungranted", (("b", 3), ("c", 9)), ("shade", "c", ("c",))), True)

    def test_spoilt_at_one_place(self):
        wrong = 0
        for world, claim in claims() + [fewest_claim()]:
            names = ["z", "", "No Name", *world.web.lamps, *world.web.bonds[:2], "comes", "blocked", "dimmer", "ceiling", "shade"]
            for other in spoilt(claim, names):
                if other and other[0] in ("comes", "blocked", "granted", "ungranted", "fewest") and other[0] != claim[0]:
                    continue
                wanted = is_true_by_words(world, other)
                self.assertSame(is_true(world, other), wanted)
                wrong += not wanted
        self.assertGreater(wrong, 5000)

    def test_spoilt_tables(self):
        world, claim = fewest_claim()
        self.assertSame(is_true(world, claim), True)
        for tables in (
            (), claim[3][:1], claim[3][1:], claim[3] + claim[3][-1:], claim[3][::-1], (claim[3][0], (7,)), (claim[3][0], ()),
            (claim[3][0], (7, (), 7)), (claim[3][0], (7, ((),))), (claim[3][0], (7, (("p", (0,), 1),))), (claim[3][0], (8, ())),
            ((5, claim[3][0][1][:-1]), claim[3][1]), ((5, claim[3][0][1] + (("s", (0,), 1),)), claim[3][1]),
            ((5, (("p", (0,)),) + claim[3][0][1][1:]), claim[3][1]), ((5, (("p", (0,), 1, 1),) + claim[3][0][1][1:]), claim[3][1]),
            ((5, ((),) + claim[3][0][1][1:]), claim[3][1]), ((5, (("p", (), 1),) + claim[3][0][1][1:]), claim[3][1]),
            ((5, (("p", (0, 0), 1),) + claim[3][0][1][1:]), claim[3][1]), ((5, (("p", (False,), 1),) + claim[3][0][1][1:]), claim[3][1]),
            ((5, (("p", (0,), True),) + claim[3][0][1][1:]), claim[3][1]),
        ):
            self.assertCallPlain(world, claim[:3] + (tables,), False)


class Made(Case):
    def test_claim_to(self):
        words = {"comes": 0, "blocked": 0}
        for first, second in random_pairs(300, seed=133):
            found = claim_to(first, second)
            self.assertSame(plain_kinds(found), True)
            self.assertSame(is_true(first, found), True)
            self.assertSame((found[0], found[1]), ("comes" if comes(first, second) else "blocked", second.row))
            if found[0] == "blocked":
                self.assertSame(found[2], obstacle(first, second))
            self.assertSame(claim_to(first, second), found)
            words[found[0]] += 1
        self.assertGreater(min(words.values()), 40)

    def test_claim_wish(self):
        words = {"granted": 0, "ungranted": 0}
        for world, wish in random_wishes(300, seed=134):
            found = claim_wish(world, wish)
            self.assertSame(plain_kinds(found), True)
            self.assertSame(is_true(world, found), True)
            self.assertSame(found[1], tuple(sorted(wish.items())))
            self.assertSame(found[0] == "granted", granting_by_words(world, wish) != [])
            self.assertSame(found[0] == "granted", granted(world, wish))
            wanted = brightest(world, wish).row if found[0] == "granted" else wish_fault(world, wish)
            self.assertSame(found[2], wanted)
            words[found[0]] += 1
        self.assertGreater(min(words.values()), 40)

    def test_claim_fewest(self):
        for first, second in random_pairs(300, seed=135):
            if not comes(first, second):
                self.assertFails(NotComing, {"paper": obstacle(first, second)}, claim_fewest, first, second)
                continue
            found = claim_fewest(first, second)
            self.assertSame(plain_kinds(found), True)
            self.assertSame(is_true(first, found), True)
            self.assertSame(found[:2], ("fewest", second.row))
            self.assertSame(len(found[2]), fewest_deeds(first, second))
            wanted = [(light, [tuple(row) for row in rows]) for light, rows in found[3]]
            self.assertSame(wanted, fewest_tables(first, second))

    def test_calls(self):
        world = sample_world()
        after = World.of_row(sample_web(), (5, 3, 3))
        names = ["first", "second"]
        self.assertCall(claim_to, names, [world, after], ("comes", (5, 3, 3), ("m",)))
        self.assertCall(claim_to, names, [world, world], ("comes", (5, 1, 3), ()))
        self.assertCall(claim_to, names, [after, world], ("blocked", (5, 1, 3), ("dimmer", "b")))
        self.assertCall(claim_fewest, names, [world, after], ("fewest", (5, 3, 3), ("m",), ((3, ()),)))
        names = ["world", "wish"]
        self.assertCall(claim_wish, names, [world, {"b": 3}], ("granted", (("b", 3),), (5, 3, 3), ("m",)))
        self.assertCall(claim_wish, names, [world, {"c": 5, "b": 1}], ("ungranted", (("b", 1), ("c", 5)), ("shade", "c", ("c",))))
        for wish in (None, {}):
            self.assertCall(claim_wish, names, [world, wish], ("granted", (), (5, 3, 3), ("m",)))
        self.assertSame(claim_wish(world), claim_wish(world, {}))

    def test_wrong(self):
        world = sample_world()
        for other in (path_world(), world.over(sample_web().with_ceiling("a", 9))):
            for call in (claim_to, claim_fewest):
                self.assertFails(WebsDiffer, {}, call, world, other)
        for bad in NUMBERS:
            self.assertFails(BadNumber, {"number": bad}, claim_wish, world, {"a": bad, "z": 1})
        for bad in NAMES:
            self.assertFails(Unknown, {"name": bad}, claim_wish, world, {bad: 1, "zz": 2})

    def test_too_large(self):
        web = web_of("abcdefghi", ["ah"] + ["h" + lamp for lamp in "bcdefg"])
        first = World.of_row(web, (5, 0, 0, 0, 0, 0, 0, 0, 0))
        second = World.of_row(web, (5, 5, 5, 5, 5, 5, 5, 5, 0))
        # All lamps are due here, so that h joins them; with h at 7 they are six open groups.
        self.assertSame(is_true(first, claim_fewest(first, second)), True)
        web = web.with_bond("z", "h", "i")
        first = World.of_row(web, (5, 0, 0, 0, 0, 0, 0, 0, 7))
        second = World.of_row(web, (5, 5, 5, 5, 5, 5, 5, 7, 7))
        self.assertFails(TooLarge, {"limit": 5}, claim_fewest, first, second)
        self.assertFails(NotComing, {"paper": ("shade", "a", ("a", "h"))}, claim_fewest, first, second.with_light("a", 6))
        self.assertSame(is_true(first, ("fewest", second.row, ("k00",), ((5, ()), (7, ())))), False)
        self.assertSame(is_true(first, claim_to(first, second)), True)

    def test_the_largest(self):
        world = large_world()
        second = brightest(world)
        for claim in (claim_to(world, second), claim_wish(world, second.lights), claim_fewest(world, second)):
            self.assertSame(is_true(world, claim), True)
        rng = random.Random(136)
        row = list(second.row)
        row[rng.randrange(10)] += 1
        self.assertSame(is_true(world, claim_to(world, World.of_row(world.web, row))), True)


if __name__ == "__main__":
    unittest.main()
