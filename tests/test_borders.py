"""Points 32 to 34 and the interface of borders.py."""
import copy
import random
import unittest

from helpers import (
    LIMIT, Case, passes, random_piece, random_surrounding, random_world, sample_world, subsets, web_of, with_fewer,
)

from outshiners.borders import (
    alike_in_all, is_telling, is_tight, least_difference, smaller, table_at, tables, telling,
)
from outshiners.faults import BadNumber, BordersDiffer
from outshiners.pieces import Piece, glue
from outshiners.renaming import numbers_of, stretch
from outshiners.webs import Web
from outshiners.wishes import granted
from outshiners.worlds import World

HUGE = LIMIT + 1
NUMBERS = (True, False, HUGE, -HUGE)


def field_of(piece, light):
    """The set of the lamps of the field with the free caps."""
    found = set()
    for lamp, own in piece.world:
        ceiling = piece.world.web.ceiling(lamp)
        if own <= light and (ceiling is None or light <= max(own, ceiling)):
            found.add(lamp)
    return found


def ends_of_paths(piece, light, path):
    """The set of the lamps of the field at which a path that begins so ends, with inner lamps alone between."""
    found = set()
    field = field_of(piece, light)
    for _, one, two, low, high in piece.world.web.bond_rows:
        for here, there in ((one, two), (two, one)):
            if here == path[-1] and there in field and there not in path and passes(low, high, light):
                found.add(there)
                if there in piece.inner:
                    found |= ends_of_paths(piece, light, path + [there])
    return found


def table_by_words(piece, light):
    """The table by the words of point 32, over all paths."""
    world = piece.world
    takers = [lamp for lamp in piece.border if lamp in field_of(piece, light) and world.light(lamp) < light]
    ends = {lamp: ends_of_paths(piece, light, [lamp]) for lamp in takers}
    lit = [lamp for lamp in takers if any(world.light(end) == light for end in ends[lamp])]
    pairs = [(one, two) for one in takers for two in takers if one < two and two in ends[one]]
    return (tuple(lit), tuple(pair for pair in pairs if not set(pair) <= set(lit)))


def turns(piece):
    """Every number at which the table of the piece can change, and those beside it."""
    world = piece.world
    numbers = {-LIMIT, LIMIT} | set(world.row) | {ceiling for _, ceiling in world.web.lamp_rows}
    for row in world.web.bond_rows:
        numbers |= set(row[3:])
    near = {number + more for number in numbers - {None} for more in (-2, -1, 0, 1, 2)}
    return sorted(number for number in near if -LIMIT <= number <= LIMIT)


def alike_by_words(first, second):
    """True if the tables are equal at every number."""
    numbers = sorted(set(turns(first) + turns(second)))
    return all(table_by_words(first, number) == table_by_words(second, number) for number in numbers)


def pieces(many=150, seed=61, **sizes):
    """Many small pieces."""
    rng = random.Random(seed)
    return [random_piece(rng, **sizes) for _ in range(many)]


def fitting_pairs(many=400, seed=62):
    """Many pairs of pieces that fit, often alike."""
    rng = random.Random(seed)
    pairs = []
    while len(pairs) < many:
        piece = random_piece(rng)
        # Where no bond is at the border, nothing is told.
        if not any(piece.world.web.bonds_of(lamp) for lamp in piece.border):
            continue
        if rng.random() < 0.3:
            pairs.append((piece, random_surrounding(rng, piece)))
        else:
            pairs.append((piece, with_fewer(rng, piece)))
    return pairs


def chain(ends, **lights):
    """A piece of lamps without ceilings; lamps from p on are its border."""
    world = World(web_of(sorted(lights), ends), lights)
    return Piece(world, [lamp for lamp in world.web if lamp >= "p"])


def wide_piece(rng):
    """A piece of 6 lamps, 8 bonds and 3 border lamps."""
    while True:
        piece = random_piece(rng)
        web = piece.world.web
        if (len(web.lamps), len(web.bonds), len(piece.border)) == (6, 8, 3):
            return piece


class Tables(Case):
    def test_table_at(self):
        for piece in pieces():
            for light in range(-2, 7):
                self.assertSame(table_at(piece, light), table_by_words(piece, light))

    def test_one_bond_and_inner_lamps(self):
        self.assertSame(table_at(chain(["ap"], a=5, p=1), 5), (("p",), ()))
        self.assertSame(table_at(chain(["ab", "bp"], a=5, b=0, p=1), 5), (("p",), ()))
        self.assertSame(table_at(chain(["pq"], p=5, q=1), 5), (("q",), ()))
        self.assertSame(table_at(chain(["pq"], p=2, q=1), 5), ((), (("p", "q"),)))
        self.assertSame(table_at(chain(["pa", "aq"], a=0, p=2, q=1), 5), ((), (("p", "q"),)))
        # An inner lamp that is brighter is not in the field.
        self.assertSame(table_at(chain(["pa", "aq"], a=6, p=2, q=1), 5), ((), ()))
        # A border lamp between two lamps does not join them.
        self.assertSame(table_at(chain(["pq", "qr"], p=5, q=2, r=1), 5), (("q",), (("q", "r"),)))
        self.assertSame(table_at(chain(["pq", "qr"], p=4, q=2, r=1), 5), ((), (("p", "q"), ("q", "r"))))
        # Nor does a border lamp that is a spring itself, but it lights both.
        self.assertSame(table_at(chain(["pq", "qr"], p=4, q=5, r=1), 5), (("p", "r"), ()))

    def test_lit_lamps_are_not_linked_with_one_another(self):
        piece = chain(["pa", "aq", "qr"], a=5, p=1, q=1, r=1)
        self.assertSame(table_at(piece, 5), (("p", "q"), (("q", "r"),)))
        self.assertSame(table_at(piece, 4), ((), (("q", "r"),)))
        piece = chain(["pa", "ab", "bq", "bc", "cr"], a=5, b=0, c=5, p=1, q=1, r=1)
        self.assertSame(table_at(piece, 5), (("p", "q", "r"), ()))

    def test_the_ends_of_spans_and_ceilings(self):
        web = Web([("a", None), ("p", 6)], [("k", "a", "p", 3, 5)])
        for light, lit in [(2, ()), (3, ("p",)), (5, ("p",)), (6, ())]:
            self.assertSame(table_at(Piece(World(web, {"a": light, "p": 0}), ["p"]), light), (lit, ()))
        web = web.with_span("k", None, None)
        for light, lit in [(6, ("p",)), (7, ())]:
            self.assertSame(table_at(Piece(World(web, {"a": light, "p": 0}), ["p"]), light), (lit, ()))
        # A light above the ceiling stays, and takes nothing more.
        piece = Piece(World(web, {"a": 9, "p": 8}), ["p"])
        self.assertSame([table_at(piece, light) for light in (7, 8, 9)], [((), ())] * 3)

    def test_calls(self):
        piece = Piece(sample_world(), ["b"])
        self.assertCall(table_at, ["piece", "light"], [piece, 3], (("b",), ()))
        self.assertCall(table_at, ["piece", "light"], [piece, 2], ((), ()))
        self.assertCall(tables, ["piece"], [piece], [
            (None, 2, (), ()), (3, 3, ("b",), ()), (4, None, (), ()),
        ])
        self.assertFreshList(lambda: tables(piece))
        for bad in NUMBERS:
            self.assertFails(BadNumber, {"number": bad}, table_at, piece, bad)

    def test_no_border_and_the_only_lamp(self):
        for piece in (Piece(sample_world()), Piece(World(Web([("a", 3)]), {"a": 5}), ["a"]), Piece(World(Web([("a", 3)]), {"a": 5}))):
            self.assertSame(tables(piece), [(None, None, (), ())])
            self.assertSame(table_at(piece, 5), ((), ()))

    def test_tables_cover_all_numbers(self):
        for piece in pieces():
            found = tables(piece)
            self.assertIs(found[0][0], None)
            self.assertIs(found[-1][1], None)
            for (_, high, *table), (low, _, *other) in zip(found, found[1:]):
                self.assertSame(high + 1, low)
                self.assertNotEqual(table, other)
            for number in turns(piece):
                inside = [row[2:] for row in found if passes(row[0], row[1], number)]
                self.assertSame(inside, [table_at(piece, number)])
                self.assertSame(inside, [table_by_words(piece, number)])

    def test_the_least_and_the_greatest_numbers(self):
        piece = Piece(World(web_of("ap", ["ap"]), {"a": LIMIT, "p": LIMIT - 1}), ["p"])
        self.assertSame(tables(piece), [(None, LIMIT - 1, (), ()), (LIMIT, None, ("p",), ())])
        self.assertSame(table_at(piece, LIMIT), (("p",), ()))
        piece = Piece(World(web_of("ap", ["ap"]), {"a": 1 - LIMIT, "p": -LIMIT}), ["p"])
        self.assertSame(tables(piece), [
            (None, -LIMIT, (), ()), (1 - LIMIT, 1 - LIMIT, ("p",), ()), (2 - LIMIT, None, (), ()),
        ])
        self.assertSame(table_at(piece, -LIMIT), ((), ()))
        piece = Piece(World(web_of("pq", [("pq", -LIMIT, LIMIT)]), {"p": -LIMIT, "q": -LIMIT}), ["p", "q"])
        self.assertSame(tables(piece), [(None, -LIMIT, (), ()), (1 - LIMIT, None, (), (("p", "q"),))])
        web = Web([("p", LIMIT), ("q", LIMIT)], [("k", "p", "q", LIMIT, None)])
        piece = Piece(World(web, {"p": LIMIT, "q": LIMIT - 1}), ["p", "q"])
        self.assertSame(tables(piece), [(None, LIMIT - 1, (), ()), (LIMIT, None, ("q",), ())])


class Alike(Case):
    def test_least_difference(self):
        differ = 0
        for first, second in fitting_pairs():
            found = least_difference(first, second)
            self.assertSame(least_difference(second, first), found)
            self.assertSame(alike_in_all(first, second), found is None)
            self.assertSame(alike_in_all(first, second), alike_by_words(first, second))
            for number in sorted(set(turns(first) + turns(second))):
                same = table_by_words(first, number) == table_by_words(second, number)
                if found is None or number <= found:
                    self.assertSame(same, number != found)
            if found is not None:
                differ += 1
                self.assertNotEqual(table_at(first, found), table_at(second, found))
                self.assertSame(table_at(first, found - 1), table_at(second, found - 1))
        self.assertGreater(differ, 60)

    def test_least_difference_of_numbers_far_apart(self):
        rng = random.Random(74)
        for first, second in fitting_pairs(150, seed=75):
            old = sorted(set(numbers_of(first.world) + numbers_of(second.world)))
            new = sorted(rng.sample(range(-9999, 9999), len(old)))
            left, right = [
                Piece(stretch(piece.world, dict(zip(old, new))), piece.border) for piece in (first, second)
            ]
            numbers = sorted(set(turns(left) + turns(right)))
            differ = [number for number in numbers if table_by_words(left, number) != table_by_words(right, number)]
            self.assertSame(least_difference(left, right), differ[0] if differ else None)
            if differ:
                self.assertSame(is_telling(left, right, *telling(left, right)), True)

    def test_alike_in_many_surroundings(self):
        rng = random.Random(63)
        asked = 0
        for first, second in fitting_pairs(150, seed=64):
            alike = alike_in_all(first, second)
            shown = False
            for _ in range(12):
                around = random_surrounding(rng, first)
                if set(around.inner) & set(first.inner + second.inner):
                    continue
                if set(around.world.web.bonds) & set(first.world.web.bonds + second.world.web.bonds):
                    continue
                lamps = rng.sample(around.world.web.lamps, rng.randint(0, len(around.world.web.lamps)))
                wish = {lamp: rng.randint(0, 5) for lamp in lamps}
                if rng.random() < 0.5:
                    wish = {lamp: rng.choice(glue(first, around).borne) for lamp in lamps}
                answers = [granted(glue(piece, around), wish) for piece in (first, second)]
                self.assertSame(is_telling(first, second, around, wish), answers[0] != answers[1])
                shown = shown or answers[0] != answers[1]
                asked += 1
            if shown:
                self.assertSame(alike, False)
        self.assertGreater(asked, 1000)

    def test_telling(self):
        told = 0
        for first, second in fitting_pairs(600, seed=65):
            found = telling(first, second)
            if alike_in_all(first, second):
                self.assertIs(found, None)
                continue
            told += 1
            surrounding, wish = found
            self.assertSame([type(item) for item in (found, surrounding, wish)], [tuple, Piece, dict])
            self.assertLessEqual(len(surrounding.inner), 1)
            self.assertLessEqual(len(surrounding.world.web.bonds), 1)
            self.assertSame(list(wish), sorted(wish))
            self.assertSame(is_telling(first, second, surrounding, wish), True)
            self.assertSame(is_telling(second, first, surrounding, wish), True)
            self.assertSame(is_telling(first, first, surrounding, wish), False)
            self.assertNotEqual(granted(glue(first, surrounding), wish), granted(glue(second, surrounding), wish))
            self.assertSame(telling(first, second), found)
        self.assertGreater(told, 100)

    def test_a_link_is_told_by_an_inner_lamp_and_a_bond(self):
        first, second = chain(["pq"], p=2, q=2), chain([], p=2, q=2)
        self.assertSame(least_difference(first, second), 3)
        surrounding, wish = telling(first, second)
        self.assertSame((len(surrounding.inner), len(surrounding.world.web.bonds)), (1, 1))
        self.assertSame(is_telling(first, second, surrounding, wish), True)
        self.assertFreshDict(lambda: telling(first, second)[1])

    def test_names_that_are_taken(self):
        web = Web([("p", None), ("q", None), ("x0", None)], [("x0", "p", "x0", None, None), ("x1", "q", "x0", None, None)])
        first = Piece(World(web, {"p": 1, "q": 1, "x0": 0}), ["p", "q"])
        second = Piece(first.world.over(web.without_bond("x0")), ["p", "q"])
        self.assertSame(is_telling(first, second, *telling(first, second)), True)
        third = first.without_lamp("x0")
        self.assertSame(is_telling(third, first, *telling(third, first)), True)

    def test_calls(self):
        first, second = chain(["ap"], a=5, p=1), chain([], p=1)
        names = ["first", "second"]
        self.assertCall(least_difference, names, [first, second], 5)
        self.assertCall(alike_in_all, names, [first, second], False)
        self.assertCall(least_difference, names, [first, first], None)
        self.assertCall(alike_in_all, names, [first, first], True)
        self.assertCall(telling, names, [first, first], None)
        names += ["surrounding", "wish"]
        self.assertCall(is_telling, names, [first, second, second, {"p": 5}], True)
        self.assertCall(is_telling, names, [first, second, second, {"p": 4}], False)

    def test_spoilt_tellings(self):
        first, second = chain(["ap"], a=5, p=1), chain([], p=1)
        around = chain([], p=1)
        self.assertSame(is_telling(first, second, around, {"p": 5}), True)
        for wish in ({}, {"p": 1}, {"p": 4}, {"p": 6}, {"p": HUGE}, {"p": True}, {"p": False}, {"p": -HUGE}):
            self.assertSame(is_telling(first, second, around, wish), False)
        # A told lamp that is none of the surrounding.
        for name in ("a", "z", "", "No Name", "k00"):
            self.assertSame(is_telling(first, second, around, {"p": 5, name: 5}), False)
        # A told inner lamp of the surrounding.
        wider = chain([], z=3, p=1)
        wider = Piece(wider.world, ["p"])
        self.assertSame(is_telling(first, second, wider, {"p": 5, "z": 3}), True)
        self.assertSame(is_telling(first, second, wider, {"p": 5, "z": 4}), False)
        # True where 1 is right.
        third = chain(["ap"], a=1, p=0)
        self.assertSame(is_telling(third, chain([], p=0), chain([], p=0), {"p": 1}), True)
        self.assertSame(is_telling(third, chain([], p=0), chain([], p=0), {"p": True}), False)

    def test_surroundings_that_cannot_be_glued(self):
        first, second = chain(["ap"], a=5, p=1), chain([], p=1)
        bond = Piece(World(Web([("p", None), ("z", None)], [("k00", "p", "z", None, None)]), {"p": 1, "z": 0}), ["p"])
        for around in (
            chain([], p=2), chain([], p=1, q=1), chain([], a=5, p=1), bond, Piece(World(Web([("p", None)]), {"p": 1})),
            Piece(World(Web([("p", 9)]), {"p": 1}), ["p"]), Piece(World(Web([("z", None)]), {"z": 1})),
        ):
            wish = {"p": 5} if "p" in around.world.web else {}
            self.assertSame(is_telling(first, second, around, wish), False)
            self.assertSame(is_telling(second, first, around, wish), False)

    def test_surroundings_that_are_too_large(self):
        lights = {lamp: 0 for lamp in "abcde"}
        first = chain(["ap"], p=1, **{**lights, "a": 5})
        second = chain([], p=1, **lights)
        around = Piece(World.flat(web_of("pvwxyz"[:5], []), 1), ["p"])
        self.assertSame(is_telling(first, second, around, {"p": 5}), True)
        around = Piece(World.flat(web_of("pvwxyz", []), 1), ["p"])
        self.assertSame(is_telling(first, second, around, {"p": 5}), False)
        self.assertSame(is_telling(first, chain([], p=1), around, {"p": 5}), False)
        self.assertSame(is_telling(chain([], p=1), first, around, {"p": 5}), False)

    def test_borders_differ(self):
        first = chain(["ap"], a=5, p=1, q=3)
        for other, lamp in [
            (chain([], p=2, q=3), "p"), (chain([], p=1, q=4), "q"), (chain([], p=1), "q"), (chain([], a=5), "p"),
            (chain([], p=1, q=3, r=1), "r"), (Piece(first.world, ["q"]), "p"),
            (Piece(World(Web([("p", None), ("q", 3)]), {"p": 1, "q": 3}), ["p", "q"]), "q"),
        ]:
            for one, two in ((first, other), (other, first)):
                for call in (least_difference, alike_in_all, telling):
                    self.assertFails(BordersDiffer, {"lamp": lamp}, call, one, two)
                self.assertFails(BordersDiffer, {"lamp": lamp}, is_telling, one, two, first, {"z": True})
                self.assertFails(BordersDiffer, {"lamp": lamp}, is_telling, one, two, other, {})

    def test_pieces_with_names_in_common_are_compared_too(self):
        first, second = chain(["ap"], a=5, p=1), chain(["ap", "ap"], a=5, p=1)
        self.assertSame(alike_in_all(first, second), True)
        self.assertSame(alike_in_all(first, chain(["ap"], a=4, p=1)), False)

    def test_without_a_border_all_are_alike(self):
        for one in pieces(20, seed=66):
            for two in pieces(5, seed=67):
                left, right = Piece(one.world), Piece(two.world)
                self.assertSame(alike_in_all(left, right), True)
                self.assertIs(telling(left, right), None)


class Smaller(Case):
    def test_smaller(self):
        removed = 0
        for piece in pieces(120, seed=68):
            found = smaller(piece)
            self.assertSame(found.border_rows, piece.border_rows)
            self.assertSame(alike_by_words(found, piece), True)
            self.assertSame(is_tight(found), True)
            self.assertSame(smaller(found), found)
            self.assertSame(is_tight(piece), found == piece)
            removed += found != piece
        self.assertGreater(removed, 50)

    def test_smaller_step_by_step(self):
        for piece in pieces(60, seed=69):
            left = piece
            for lamp in piece.inner:
                if len(left.world.web.lamps) > 1 and alike_by_words(left.without_lamp(lamp), piece):
                    left = left.without_lamp(lamp)
            for bond in left.world.web.bonds:
                if alike_by_words(left.without_bond(bond), piece):
                    left = left.without_bond(bond)
            self.assertSame(smaller(piece), left)

    def test_tight_means_that_nothing_can_be_removed(self):
        for piece in pieces(120, seed=70):
            rests = [piece.without_bond(bond) for bond in piece.world.web.bonds]
            if len(piece.world.web.lamps) > 1:
                rests += [piece.without_lamp(lamp) for lamp in piece.inner]
            self.assertSame(is_tight(piece), not any(alike_by_words(rest, piece) for rest in rests))

    def test_no_border_leaves_one_lamp(self):
        found = smaller(Piece(sample_world()))
        self.assertSame(found, Piece(World(Web([("c", None)]), {"c": 3})))
        self.assertSame(is_tight(found), True)
        self.assertSame(is_tight(Piece(World(web_of("ab", []), {"a": 1, "b": 1}))), False)

    def test_names_decide(self):
        piece = chain(["ap", "bp", "bp"], a=5, b=5, p=1)
        self.assertSame(smaller(piece), Piece(World(Web([("b", None), ("p", None)], [("k02", "b", "p", None, None)]), {"b": 5, "p": 1}), ["p"]))

    def test_calls(self):
        piece = Piece(sample_world(), ["b"])
        left = Piece(World(Web([("b", 4), ("c", None)], [("m", "b", "c", 0, 3)]), {"b": 1, "c": 3}), ["b"])
        self.assertCall(smaller, ["piece"], [piece], left)
        self.assertCall(is_tight, ["piece"], [piece], False)
        self.assertCall(is_tight, ["piece"], [left], True)
        before = copy.deepcopy(piece)
        smaller(piece)
        self.assertSame(piece, before)

    def test_the_largest_pieces(self):
        rng = random.Random(71)
        for _ in range(3):
            piece = wide_piece(rng)
            found = smaller(piece)
            self.assertSame((is_tight(found), alike_by_words(found, piece)), (True, True))
            self.assertSame(tables(found), tables(piece))


class Words(Case):
    def test_subsets_of_the_bonds_of_one_piece(self):
        rng = random.Random(72)
        for _ in range(12):
            world = random_world(rng, 4, 4)
            piece = Piece(world, world.web.lamps[:2])
            for bonds in subsets(world.web.bonds):
                left = piece
                for bond in bonds:
                    left = left.without_bond(bond)
                self.assertSame(alike_in_all(piece, left), alike_by_words(piece, left))


if __name__ == "__main__":
    unittest.main()
