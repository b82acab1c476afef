"""Points 10, 29 and 30 and the interface of sameness.py."""
import itertools
import random
import unittest

from helpers import LIMIT, Case, random_world, sample_web, sample_world, small_worlds, web_of, worlds_over

from outshiners.faults import TooLarge
from outshiners.renaming import numbers_of, rename_world, stretch
from outshiners.sameness import alike, first_difference, form, is_matching, matching
from outshiners.webs import Web
from outshiners.worlds import World

HUGE = LIMIT + 1
SAME = ({"a": "a", "b": "b", "c": "c"}, {"k": "k", "m": "m"}, {0: 0, 1: 1, 3: 3, 4: 4, 5: 5})


def rank_rows(world):
    """The rows of the lamps (light, ceiling) and of the bonds (end, end, low, high), in ranks, by point 29."""
    ends = [number for row in world.web.bond_rows for number in row[3:] if number is not None]
    ceilings = [ceiling for _, ceiling in world.web.lamp_rows if ceiling is not None]
    numbers = sorted(set(list(world.row) + ends + ceilings))
    many = len(numbers)
    lamps = {
        lamp: (numbers.index(world.light(lamp)), many if ceiling is None else numbers.index(ceiling))
        for lamp, ceiling in world.web.lamp_rows
    }
    bonds = [
        (first, second, -1 if low is None else numbers.index(low), many if high is None else numbers.index(high))
        for _, first, second, low, high in world.web.bond_rows
    ]
    return many, lamps, bonds


def placed(bonds, order):
    """The bonds of the form for this order of the lamps."""
    return tuple(sorted(
        (*sorted((order.index(first), order.index(second))), low, high) for first, second, low, high in bonds
    ))


def form_by_words(world):
    """The words of point 30, over all orders of the lamps."""
    many, lamps, bonds = rank_rows(world)
    keys = {}
    for lamp in lamps:
        arms = [
            (low, high, *lamps[second if lamp == first else first])
            for first, second, low, high in bonds if lamp in (first, second)
        ]
        keys[lamp] = (*lamps[lamp], len(arms), tuple(sorted(arms)))
    orders = [
        order for order in itertools.permutations(lamps)
        if [keys[lamp] for lamp in order] == sorted(keys.values())
    ]
    return (many, tuple(lamps[lamp] for lamp in orders[0]), min(placed(bonds, order) for order in orders)), len(orders)


def are_alike_by_words(left, right):
    """True if some renaming of the lamps makes the ranks of the worlds equal, by point 29."""
    left_many, left_lamps, left_bonds = rank_rows(left)
    right_many, right_lamps, right_bonds = rank_rows(right)
    if left_many != right_many or len(left_lamps) != len(right_lamps):
        return False
    wanted = placed(right_bonds, list(right_lamps))
    return any(
        [left_lamps[lamp] for lamp in order] == list(right_lamps.values()) and placed(left_bonds, order) == wanted
        for order in itertools.permutations(left_lamps)
    )


def disguised(rng, world):
    """The same world with other names and numbers, and the three dicts that lead to it."""
    lamps = dict(zip(world.web.lamps, rng.sample(["a", "b", "c", "d", "x1", "y", "z"], len(world.web.lamps))))
    bonds = dict(zip(world.web.bonds, rng.sample([f"k{number}" for number in range(9)], len(world.web.bonds))))
    numbers = numbers_of(world)
    table = dict(zip(numbers, sorted(rng.sample(range(-20, 20), len(numbers)))))
    return stretch(rename_world(world, lamps, bonds), table), (lamps, bonds, table)


def pairs_of_worlds(many=150, seed=41):
    """Pairs of worlds: disguised ones, ones that are nearly the same, and others."""
    rng = random.Random(seed)
    pairs = []
    for world in small_worlds(many, seed=seed, lights=3):
        other, _ = disguised(rng, world)
        lamp = rng.choice(other.web.lamps)
        near = other.with_light(lamp, rng.choice(other.row))
        pairs += [(world, other), (world, near), (world, random_world(rng, lights=3))]
        if other.web.bonds:
            pairs.append((world, other.over(other.web.without_bond(rng.choice(other.web.bonds)))))
            pairs.append((world, other.over(other.web.with_span(rng.choice(other.web.bonds), None, None))))
    return pairs


def equal_lamps(many, others=0):
    """A world with so many lamps that are all equal, and others that are all unlike."""
    lamps = [(f"a{number}", None) for number in range(many)] + [(f"b{number}", number) for number in range(others)]
    return World.flat(Web(lamps), 0)


class Forms(Case):
    def test_the_example(self):
        wanted = (5, ((1, 3), (2, 5), (4, 5)), ((0, 1, 0, 2), (0, 2, -1, 5)))
        self.assertCall(form, ["world"], [sample_world()], wanted)

    def test_the_form_is_what_the_words_say(self):
        for world in small_worlds(150, seed=3, lights=3) + small_worlds(60, seed=6, most_lamps=5, most_bonds=8, lights=2):
            wanted, many = form_by_words(world)
            self.assertLessEqual(many, 120)
            self.assertSame(form(world), wanted)

    def test_equal_bonds_stand_as_often_as_they_occur(self):
        world = World.flat(web_of("ab", ["ab", "ba", ("ab", 0, 0)]), 0)
        self.assertSame(form(world), (1, ((0, 1), (0, 1)), ((0, 1, -1, 1), (0, 1, -1, 1), (0, 1, 0, 0))))

    def test_the_least_of_all_arrangements(self):
        # Three rings of one kind: the order in which their lamps stand decides over the bonds.
        world = World.flat(web_of("abcde", ["ac", "ce", "eb", "bd", "da"]), 0)
        self.assertSame(form(world)[2], ((0, 1, -1, 1), (0, 2, -1, 1), (1, 3, -1, 1), (2, 4, -1, 1), (3, 4, -1, 1)))
        self.assertSame(form(world), form_by_words(world)[0])

    def test_one_lamp(self):
        self.assertSame(form(World.flat(Web([("a", None)]), 7)), (1, ((0, 1),), ()))
        self.assertSame(form(World.flat(Web([("a", 3)]), 7)), (2, ((1, 0),), ()))
        self.assertSame(form(World.flat(Web([("a", -LIMIT)]), LIMIT)), (2, ((1, 0),), ()))


class Alike(Case):
    def test_alike_is_what_the_words_say(self):
        counts = {True: 0, False: 0}
        for left, right in pairs_of_worlds():
            wanted = are_alike_by_words(left, right)
            counts[wanted] += 1
            self.assertSame(alike(left, right), wanted)
            self.assertSame(alike(right, left), wanted)
            self.assertSame(form(left) == form(right), wanted)
            self.assertSame(first_difference(left, right) is None, wanted)
            self.assertSame(matching(left, right) is not None, wanted)
        self.assertGreater(min(counts.values()), 100)

    def test_all_renamings_of_small_worlds(self):
        for world in small_worlds(25, seed=43, most_lamps=3, most_bonds=3):
            lamps, bonds = world.web.lamps, world.web.bonds
            for new_lamps in itertools.permutations(lamps):
                for new_bonds in itertools.permutations(bonds):
                    tables = (dict(zip(lamps, new_lamps)), dict(zip(bonds, new_bonds)))
                    other = rename_world(world, *tables)
                    self.assertSame(alike(world, other), True)
                    self.assertSame(form(other), form(world))
                    same = {number: number for number in numbers_of(world)}
                    self.assertSame(is_matching(world, other, *tables, same), True)

    def test_matching(self):
        for left, right in pairs_of_worlds():
            found = matching(left, right)
            if found is not None:
                self.assertEqual([type(part) for part in found], [dict, dict, dict])
                self.assertSame([list(part) for part in found], [left.web.lamps, left.web.bonds, numbers_of(left)])
                self.assertSame(is_matching(left, right, *found), True)
                lamps, bonds, numbers = found
                self.assertSame(stretch(rename_world(left, lamps, bonds), numbers), right)
                self.assertSame(matching(left, right), found)

    def test_calls(self):
        left = sample_world()
        web = Web([("x", 40), ("y", None), ("z", None)], [("p", "x", "z", 0, 30), ("q", "x", "y", None, None)])
        right = World(web, {"x": 10, "y": 50, "z": 30})
        names = ["left", "right"]
        self.assertCall(alike, names, [left, right], True)
        tables = ({"a": "y", "b": "x", "c": "z"}, {"k": "q", "m": "p"}, {0: 0, 1: 10, 3: 30, 4: 40, 5: 50})
        self.assertCall(matching, names, [left, right], tables)
        self.assertCall(first_difference, names, [left, right], None)
        self.assertCall(is_matching, names + ["lamps", "bonds", "numbers"], [left, right, *tables], True)
        self.assertCall(is_matching, names + ["lamps", "bonds", "numbers"], [right, left, *tables], False)
        for place in range(3):
            self.assertFreshDict(lambda: matching(left, right)[place])
        other = right.with_light("z", 40)
        self.assertCall(alike, names, [left, other], False)
        self.assertCall(matching, names, [left, other], None)
        self.assertCall(first_difference, names, [left, other], ("lamp", 1, (2, 5), (3, 5)))

    def test_first_difference(self):
        for left, right in pairs_of_worlds(80, seed=47):
            (left_many, *left_parts), (right_many, *right_parts) = form(left), form(right)
            wanted = []
            counts = [("numbers", left_many, right_many)]
            counts += [(word, len(a), len(b)) for word, a, b in zip(("lamps", "bonds"), left_parts, right_parts)]
            wanted += [row for row in counts if row[1] != row[2]]
            for word, a, b in zip(("lamp", "bond"), left_parts, right_parts):
                wanted += [(word, at, *rows) for at, rows in enumerate(zip(a, b)) if rows[0] != rows[1]]
            self.assertSame(first_difference(left, right), wanted[0] if wanted else None)

    def test_each_difference(self):
        world = World.of_row(web_of("abc", ["ab", "bc"]), (0, 1, 2))
        for other, wanted in [
            (World.of_row(web_of("abc", ["ab", "bc"]), (0, 1, 1)), ("numbers", 3, 2)),
            (World.of_row(web_of("abcd", ["ab", "bc"]), (0, 1, 2, 2)), ("lamps", 3, 4)),
            (World.of_row(web_of("abc", ["ab", "bc", "ac"]), (0, 1, 2)), ("bonds", 2, 3)),
            (World.of_row(web_of("abc", ["ab", "bc"]).with_ceiling("a", 1), (0, 1, 2)), ("lamp", 0, (0, 3), (0, 1))),
            (World.of_row(web_of("abc", ["ab", "ac"]), (0, 1, 2)), ("bond", 1, (1, 2, -1, 3), (0, 2, -1, 3))),
        ]:
            self.assertSame(first_difference(world, other), wanted)
            self.assertSame(first_difference(other, world), wanted[:-2] + wanted[-2:][::-1])

    def test_webs_may_be_unlike(self):
        left = World.flat(Web([("a", None)]), 0)
        for right in (sample_world(), World.flat(Web([("z", None)]), 9), World.flat(Web([("a", 5)]), 0)):
            wanted = len(right.web.lamps) == 1 and right.web.ceiling(right.web.lamps[0]) is None
            self.assertSame(alike(left, right), wanted)


class Judged(Case):
    def test_all_dicts_of_small_worlds(self):
        web = Web([("a", None), ("b", None)], [("k", "a", "b", None, None), ("l", "a", "b", None, None)])
        left, right = World.of_row(web, (1, 2)), World.of_row(web, (5, 3))
        for lamps in itertools.product(("a", "b"), repeat=2):
            for bonds in itertools.product(("k", "l"), repeat=2):
                for numbers in itertools.product((3, 5), repeat=2):
                    tables = (dict(zip("ab", lamps)), dict(zip("kl", bonds)), dict(zip((1, 2), numbers)))
                    wanted = lamps == ("b", "a") and bonds in (("k", "l"), ("l", "k")) and numbers == (3, 5)
                    self.assertSame(is_matching(left, right, *tables), wanted)

    def test_spoilt_dicts(self):
        world = sample_world()
        self.assertSame(is_matching(world, world, *SAME), True)
        for place, table in enumerate(SAME):
            for key in table:
                for other in spoilt_tables(place, table, key):
                    tables = SAME[:place] + (other,) + SAME[place + 1:]
                    self.assertSame(is_matching(world, world, *tables), False)
            self.assertSame(is_matching(world, world, *(SAME[:place] + ({},) + SAME[place + 1:])), False)
        self.assertSame(is_matching(world, world, dict(reversed(SAME[0].items())), *SAME[1:]), True)
        self.assertSame(is_matching(world, world, SAME[0], dict(reversed(SAME[1].items())), SAME[2]), True)
        self.assertSame(is_matching(world, world, *SAME[:2], dict(reversed(SAME[2].items()))), True)
        # The right values under a wrong key.
        for key in ("z", "", "k", "A"):
            self.assertSame(is_matching(world, world, {"a": "a", "b": "b", key: "c"}, *SAME[1:]), False)
            self.assertSame(is_matching(world, world, SAME[0], {"m": "m", key + "x": "k"}, SAME[2]), False)
        self.assertSame(is_matching(world, world, *SAME[:2], {0: 0, 1: 1, 3: 3, 4: 4, 6: 5}), False)

    def test_true_is_no_number(self):
        world = World.of_row(Web([("a", None), ("b", None)]), (0, 1))
        lamps = {"a": "a", "b": "b"}
        self.assertSame(is_matching(world, world, lamps, {}, {0: 0, 1: 1}), True)
        for numbers in ({0: 0, 1: True}, {0: False, 1: 1}, {0: False, 1: True}, {0: True, 1: False}):
            self.assertSame(is_matching(world, world, lamps, {}, numbers), False)

    def test_all_worlds_over_one_web(self):
        worlds = worlds_over(sample_web(), (1, 3, 5))
        for left in worlds:
            for right in worlds:
                wanted = left == right
                same = {number: number for number in numbers_of(left)}
                self.assertSame(is_matching(left, right, SAME[0], SAME[1], same), wanted)

    def test_it_raises_nothing_where_there_are_many_arrangements(self):
        left = equal_lamps(10)
        lamps = {lamp: lamp for lamp in left.web}
        self.assertSame(is_matching(left, left, lamps, {}, {0: 0}), True)
        self.assertSame(is_matching(left, World.flat(left.web, 3), lamps, {}, {0: 3}), True)
        self.assertSame(is_matching(left, sample_world(), lamps, {}, {0: 0}), False)


def spoilt_tables(place, table, key):
    """The dict with one key or value changed."""
    yield {old: new for old, new in table.items() if old != key}
    if place == 2:
        yield {**table, 77: 78}
        yield {**table, HUGE: HUGE}
        for value in (-9, 2, 99, HUGE, -HUGE, True, False, table[key] + 10 ** 15):
            if value is not table[key]:
                yield {**table, key: value}
    else:
        yield {**table, "zz": "zz"}
        yield {**table, "": "zz"}
        for value in ("zz", "", "No Name", "abcdefghi", *table.values()):
            if value != table[key]:
                yield {**table, key: value}
        others = [other for other in table if other != key]
        yield {**table, key: table[others[0]], others[0]: table[key]}


class TooMany(Case):
    calls = [form]
    pair_calls = [alike, matching, first_difference]

    def test_exactly_120(self):
        for world in (equal_lamps(5), equal_lamps(5, 5)):
            self.assertSame(alike(world, world), True)
            self.assertSame(first_difference(world, world), None)
            self.assertSame(is_matching(world, world, *matching(world, world)), True)
        ten = [("a" + str(number), None) for number in range(5)] + [("b" + str(number), 0) for number in range(5)]
        self.assertFails(TooLarge, {"limit": 120}, form, World.flat(Web(ten), 0))

    def test_more_than_120(self):
        few = equal_lamps(1)
        web = Web([(name, None if name[0] == "a" else 5) for name in ("a1", "a2", "a3", "a4", "b1", "b2", "b3")])
        for world in (equal_lamps(6), equal_lamps(10), World.flat(web, 0)):
            self.assertFails(TooLarge, {"limit": 120}, form, world)
            for call in self.pair_calls:
                for pair in ((world, few), (few, world), (world, world)):
                    self.assertFails(TooLarge, {"limit": 120}, call, *pair)
                self.assertFails(TooLarge, {"limit": 120}, call, right=world, left=few)

    def test_the_largest_worlds(self):
        lamps = "abcdefghij"
        web = web_of(lamps, ["ab", "bc", "cd", "de", "ea", "fa", "gb", "hc", "id", "je"] + ["fg", "gh", "hi", "ij", "jf"])
        world = World.of_row(web, (0, 0, 0, 0, 0, 1, 2, 3, 4, 5))
        other = rename_world(world, dict(zip(lamps, lamps[::-1])))
        self.assertSame(alike(world, other), True)
        self.assertSame(is_matching(world, other, *matching(world, other)), True)
        ring = World.of_row(web_of(lamps, ["ab", "bc", "cd", "de", "ea"] + ["ab"] * 11), (0, 0, 0, 0, 0, 1, 2, 3, 4, 5))
        self.assertSame(alike(ring, rename_world(ring, {"a": "c", "c": "a"})), True)
        five = World.of_row(web_of(lamps, ["ab", "cd", "fa", "fb", "fc", "fd", "fe"] * 2), (0, 0, 0, 0, 0, 1, 2, 3, 4, 5))
        self.assertSame(alike(five, rename_world(five, {"a": "e", "e": "a"})), True)


if __name__ == "__main__":
    unittest.main()
