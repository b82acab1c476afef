"""Points 20 and 21 and the interface of tables.py."""
import itertools
import unittest

from helpers import (
    LIMIT, Case, hanging_by_words, joined_by_words, lengths_by_words, listed, passes, path_world, random_pairs,
    sample_world, small_worlds, subsets, tupled, web_of,
)

from outshiners.coming import comes, obstacle
from outshiners.faults import BadNumber, NotComing, TooLarge, WebsDiffer
from outshiners.joinings import counts_by_light, due, fewest_deeds, history_of, most_deeds
from outshiners.tables import fewest_tables, is_fewest, is_lower_table, lower_table, open_groups, table_value
from outshiners.webs import Web
from outshiners.worlds import World

HUGE = LIMIT + 1
NUMBERS = (True, False, HUGE, -HUGE)


def sample_pair():
    """The worlds H and T of the document's example."""
    web = Web([(lamp, None) for lamp in "pqrs"], [
        ("e", "p", "s", None, None), ("f", "p", "q", None, 5), ("g", "p", "r", None, None),
    ])
    return World.of_row(web, (1, 1, 7, 5)), World.of_row(web, (7, 5, 7, 5))


def star_pair(groups):
    """Worlds with one spring a of 5, two or three open groups, and helpers x, y and z that end with the 7 of g."""
    due_lamps = "bcd"[:groups]
    only_seven = [(f"g{helper}", 7, 7) for helper in "xyz"]
    web = web_of("abcdgxyz", ["ax", "ay", "xz"] + [lamp + helper for lamp, helper in zip(due_lamps, "xyz")] + only_seven)
    first = {lamp: 0 for lamp in web}
    second = {lamp: 5 if lamp in due_lamps else 7 if lamp in "xyz" else 0 for lamp in web}
    return World(web, {**first, "a": 5, "g": 7}), World(web, {**second, "a": 5, "g": 7})


def many_groups():
    """Six lamps that are due for 5, each joined to the spring by a helper of its own, which ends with 6."""
    web = web_of("abcdefghij", ["ag", "gb", "gc", "ah", "hd", "he", "ai", "if", "jf", "jg", "jh", "ji"])
    return World.of_row(web, (5, 0, 0, 0, 0, 0, 0, 0, 0, 6))


def coming_pairs(many=300, **sizes):
    """Pairs of worlds of which the second comes of the first."""
    return [pair for pair in random_pairs(many, **sizes) if comes(*pair)]


def open_groups_by_words(first, second, light):
    """The words of point 20."""
    due_lamps = set(due(first, second, light))
    springs = {lamp for lamp in first.web if first.light(lamp) == light}
    parts = joined_by_words(first, light, due_lamps | springs)
    return [tuple(sorted(part)) for part in parts if not part & springs]


def weight_by_words(first, second, light, lamp):
    """The weight of a lamp of the base."""
    return 0 if first.light(lamp) == light or lamp in due(first, second, light) else 1


def are_neighbours(world, light, first, second):
    """True if the two lamps of the base are neighbours."""
    if first == second:
        return False
    if world.light(first) == world.light(second) == light:
        return True
    return any({first, second} == {one, two} and passes(low, high, light) for _, one, two, low, high in world.web.bond_rows)


def is_connected(world, light, lamps):
    """True if the lamps are joined as neighbours."""
    reached = {lamps[0]}
    for _ in lamps:
        reached |= {lamp for lamp in lamps if any(are_neighbours(world, light, lamp, other) for other in reached)}
    return reached == set(lamps)


def table_by_words(first, second, light):
    """The rows with the least total weights, over all sets of lamps of the base."""
    together = open_groups_by_words(first, second, light)
    base = sorted(hanging_by_words(first, second.lights, light))
    sets = [
        (lamps, sum(weight_by_words(first, second, light, lamp) for lamp in lamps))
        for lamps in subsets(base)[1:] if is_connected(first, light, lamps)
    ]
    rows = []
    for lamp in base:
        for places in sorted(tuple(some) for some in subsets(range(len(together)))[1:]):
            rows.append((lamp, places, min(
                weight for lamps, weight in sets
                if lamp in lamps and all(set(together[place]) & set(lamps) for place in places)
            )))
    return rows


def is_fair_by_words(first, second, light, rows):
    """The words of point 21, of rows with the right lamps and places."""
    together = open_groups_by_words(first, second, light)
    table = {(lamp, places): number for lamp, places, number in rows}
    for (lamp, places), number in table.items():
        weight = weight_by_words(first, second, light, lamp)
        if len(places) == 1 and lamp in together[places[0]] and number > 0:
            return False
        for other in {key[0] for key in table}:
            if are_neighbours(first, light, lamp, other) and number > table[(other, places)] + weight:
                return False
        for left in subsets(places)[1:-1]:
            right = tuple(place for place in places if place not in left)
            if number > table[(lamp, tuple(left))] + table[(lamp, right)] - weight:
                return False
    return True


def asked_pairs():
    """Triples (first, second, light) of pairs with open groups."""
    found = []
    for first, second in coming_pairs(150, most_lamps=5, most_bonds=7) + [sample_pair(), star_pair(2), star_pair(3)]:
        found.extend((first, second, light) for light in first.borne if open_groups(first, second, light))
    return found


class Groups(Case):
    def test_the_example(self):
        first, second = sample_pair()
        names = ["first", "second", "light"]
        self.assertCall(open_groups, names, [first, second, 5], [("q",)])
        self.assertCall(open_groups, names, [first, second, 7], [])
        self.assertSame(open_groups(first, second, 3), [])
        self.assertFreshList(lambda: open_groups(first, second, 5))

    def test_open_groups(self):
        for first, second in coming_pairs(200, most_lamps=5, most_bonds=7):
            for light in first.borne + [LIMIT]:
                self.assertSame(open_groups(first, second, light), open_groups_by_words(first, second, light))

    def test_more_than_five(self):
        first = many_groups()
        second = World.of_row(first.web, (5, 5, 5, 5, 5, 5, 6, 6, 6, 6))
        self.assertSame(open_groups(first, second, 5), [(lamp,) for lamp in "bcdef"])


class Tables(Case):
    def test_the_example(self):
        first, second = sample_pair()
        wanted = [("p", (0,), 1), ("q", (0,), 0), ("s", (0,), 1)]
        names = ["first", "second", "light"]
        self.assertCall(lower_table, names, [first, second, 5], wanted)
        self.assertCall(lower_table, names, [first, second, 7], [])
        self.assertCall(fewest_tables, names[:2], [first, second], [(5, wanted), (7, [])])
        self.assertFreshList(lambda: lower_table(first, second, 5))
        self.assertFreshList(lambda: fewest_tables(first, second))

    def test_least_weights(self):
        for first, second, light in asked_pairs():
            found = lower_table(first, second, light)
            self.assertSame(found, table_by_words(first, second, light))
            self.assertSame(is_lower_table(first, second, light, found), True)
            least = {row[0]: row[1] for row in counts_by_light(first, second)}[light]
            self.assertSame(table_value(first, second, light, found), least - len(due(first, second, light)))

    def test_the_order_of_the_rows(self):
        first, second = star_pair(3)
        places = [row[1] for row in lower_table(first, second, 5) if row[0] == "a"]
        self.assertSame(places, [(0,), (0, 1), (0, 1, 2), (0, 2), (1,), (1, 2), (2,)])

    def test_any_lights_are_ascending(self):
        lights = (1000000, -5, 17, -1000, 300, 8)
        web = web_of("abcdefghijkl"[:6] + "uvwx", ["au", "bu", "cv", "dv", "ew", "fx"])
        first = World.of_row(web, lights + (-2000,) * 4)
        second = World.of_row(web, (lights[0], -5, 17, 17, 300, 8, -5, 17, 300, 8))
        self.assertSame([light for light, _ in fewest_tables(first, second)], [-5, 8, 17, 300])
        second = World.of_row(web, (lights[0], 1000000, 17, 17, 300, 8, 1000000, 17, 300, 8))
        tables = fewest_tables(first, second)
        self.assertSame(tables, [(8, []), (17, []), (300, []), (1000000, [])])
        history = history_of(first, second)
        self.assertSame(is_fewest(first, second, history, tables), True)
        for order in itertools.permutations(tables):
            self.assertSame(is_fewest(first, second, history, order), list(order) == tables)

    def test_fewest_tables(self):
        for first, second in coming_pairs():
            found = fewest_tables(first, second)
            lights = [light for light in first.borne if due(first, second, light)]
            self.assertSame(found, [(light, lower_table(first, second, light)) for light in lights])
            values = [table_value(first, second, light, rows) + len(due(first, second, light)) for light, rows in found]
            self.assertSame(sum(values), fewest_deeds(first, second))

    def test_five_open_groups(self):
        first = many_groups()
        second = World.of_row(first.web, (5, 5, 5, 5, 5, 5, 6, 6, 6, 6))
        found = lower_table(first, second, 5)
        self.assertSame(len(found), 9 * 31)
        self.assertSame(table_value(first, second, 5, found), 3)
        self.assertSame(is_fewest(first, second, history_of(first, second), fewest_tables(first, second)), True)

    def test_several_springs_stand_side_by_side(self):
        web = web_of("abcd", ["ab", "cd"])
        first = World.of_row(web, (5, 0, 5, 0))
        self.assertSame(open_groups(first, World.of_row(web, (5, 5, 5, 5)), 5), [])
        web = web_of("abcdef", ["ab", "bc", "de", "ef", ("be", 6, 9)])
        first, second = World.of_row(web, (5, 0, 0, 5, 0, 0)), World.of_row(web, (5, 6, 5, 5, 6, 5))
        first = World(web_of("abcdefg", ["ab", "bc", "de", "ef", ("bg", 6, 9), ("eg", 6, 9)]), {**first.lights, "g": 6})
        second = World(first.web, {**second.lights, "g": 6})
        self.assertSame(open_groups(first, second, 5), [("c",), ("f",)])
        self.assertSame(table_value(first, second, 5, lower_table(first, second, 5)), 2)
        # The value stands in the row of the first spring.
        rows = {row[:2]: row[2] for row in lower_table(first, second, 5)}
        self.assertSame((rows[("a", (0, 1))], rows[("d", (0, 1))], rows[("b", (0, 1))]), (2, 2, 2))


class Judged(Case):
    def test_any_numbers(self):
        for first, second, light in asked_pairs()[:25]:
            rows = lower_table(first, second, light)
            if len(rows) > 60:
                continue
            for place, (lamp, places, number) in enumerate(rows):
                for other in (number - 1, number + 1, -LIMIT, LIMIT, 0):
                    spoilt = rows[:place] + [(lamp, places, other)] + rows[place + 1:]
                    wanted = is_fair_by_words(first, second, light, spoilt)
                    self.assertSame(is_lower_table(first, second, light, spoilt), wanted)
                    value = table_value(first, second, light, spoilt)
                    if not wanted:
                        self.assertIs(value, None)
                    else:
                        spring = next(lamp for lamp in first.web if first.light(lamp) == light)
                        self.assertSame(value, [row[2] for row in spoilt if row[0] == spring and len(row[1]) == most(spoilt)][0])
                        self.assertLessEqual(value, table_value(first, second, light, rows))

    def test_each_told_line_broken_and_kept(self):
        first, second = star_pair(2)
        rows = lower_table(first, second, 5)
        table = {row[:2]: row[2] for row in rows}
        zero = [(lamp, places, 0) for lamp, places, _ in rows]
        low = [(lamp, places, -7 * len(places)) for lamp, places, _ in rows]
        self.assertSame(table_value(first, second, 5, rows), 2)
        self.assertSame(is_lower_table(first, second, 5, zero), is_fair_by_words(first, second, 5, zero))
        self.assertSame(is_lower_table(first, second, 5, low), is_fair_by_words(first, second, 5, low))
        for key, number in [
            (("b", (0,)), 1),  # n(x, (g,)) <= 0 for x in g
            (("x", (0,)), table[("x", (0,))] + 1),  # n(x, M) <= n(y, M) + weight(x)
            (("a", (0, 1)), 50),  # and n(x, M) <= n(x, A) + n(x, B) - weight(x)
        ]:
            spoilt = [(lamp, places, number if (lamp, places) == key else old) for lamp, places, old in rows]
            self.assertNotEqual(spoilt, rows)
            self.assertSame(is_fair_by_words(first, second, 5, spoilt), False)
            self.assertSame(is_lower_table(first, second, 5, spoilt), False)
            self.assertSame(table_value(first, second, 5, spoilt), None)

    def test_the_union_alone_broken(self):
        # One lamp x beside two open groups: over neighbours all numbers of (0, 1) are equal, but too great together.
        web = web_of("abcxy", ["ax", "xb", "xc", ("xy", 7, 9)])
        first, second = World.of_row(web, (5, 0, 0, 0, 7)), World.of_row(web, (5, 5, 5, 7, 7))
        rows = lower_table(first, second, 5)
        self.assertSame(table_value(first, second, 5, rows), 1)
        raised = [(lamp, places, number + (1 if len(places) == 2 else 0)) for lamp, places, number in rows]
        self.assertSame(is_fair_by_words(first, second, 5, raised), False)
        self.assertSame(is_lower_table(first, second, 5, raised), False)

    def test_forms(self):
        first, second = star_pair(2)
        rows = lower_table(first, second, 5)
        names = ["first", "second", "light", "rows"]
        self.assertCall(is_lower_table, names, [first, second, 5, rows], True)
        self.assertCall(table_value, names, [first, second, 5, rows], 2)
        for place, row in enumerate(rows):
            lamp, places, number = row
            others = [
                (), (lamp,), (lamp, places), row + (number,), row + (places,), row + (lamp,), ("zz", places, number),
                ("", places, number), (lamp, (), number), (lamp, places + (1,), number), (lamp, places + (9,), number),
                (lamp, tuple(bool(at) for at in places), number), (lamp, tuple(at - 5 for at in places), number),
                (lamp, tuple(at + HUGE for at in places), number), (lamp, places, True), (lamp, places, False),
                (lamp, places, HUGE), (lamp, places, -HUGE), (lamp, places[::-1] + places, number),
            ]
            for other in others:
                spoilt = rows[:place] + [other] + rows[place + 1:]
                self.assertSame(is_lower_table(first, second, 5, spoilt), False)
                self.assertSame(table_value(first, second, 5, listed(spoilt)), None)
            for spoilt in (
                rows[:place] + rows[place + 1:], rows[:place] + [row] + rows[place:], rows[:place],
                rows[:place] + rows[place:][::-1] if place < len(rows) - 1 else rows[::-1],
            ):
                self.assertSame(is_lower_table(first, second, 5, spoilt), False)
                self.assertSame(table_value(first, second, 5, tupled(spoilt)), None)
        self.assertSame(is_lower_table(first, second, 5, rows + [rows[0]]), False)
        self.assertSame(is_lower_table(first, second, 5, []), False)

    def test_the_numbers_at_the_limit(self):
        first, second = star_pair(2)
        rows = [(lamp, places, -LIMIT) for lamp, places, _ in lower_table(first, second, 5)]
        self.assertSame(is_lower_table(first, second, 5, rows), is_fair_by_words(first, second, 5, rows))
        rows = [(lamp, places, -LIMIT // len(places) ** 2) for lamp, places, _ in rows]
        self.assertSame(is_lower_table(first, second, 5, rows), is_fair_by_words(first, second, 5, rows))

    def test_numbers_below_zero(self):
        first, second = sample_pair()
        rows = [("p", (0,), -3), ("q", (0,), -3), ("s", (0,), -3)]
        self.assertSame(is_lower_table(first, second, 5, rows), True)
        self.assertSame(table_value(first, second, 5, rows), -3)

    def test_without_open_groups(self):
        first, second = sample_pair()
        for light in (7, 1, 99, -LIMIT):
            self.assertSame(table_value(first, second, light, []), 0)
            self.assertSame(is_lower_table(first, second, light, ()), True)
            for rows in ([()], [("p", (), 0)], [("p", (0,), 0)]):
                self.assertSame(table_value(first, second, light, rows), None)
                self.assertSame(is_lower_table(first, second, light, rows), False)


class Fewest(Case):
    def test_no_shorter_history(self):
        for world in small_worlds(40, most_lamps=4):
            for row, lengths in lengths_by_words(world).items():
                second = World.of_row(world.web, row)
                tables = fewest_tables(world, second)
                for deeds in range(min(lengths), max(lengths) + 1):
                    history = history_of(world, second, deeds=deeds)
                    self.assertSame(is_fewest(world, second, history, tables), deeds == min(lengths))

    def test_calls(self):
        first, second = sample_pair()
        tables = fewest_tables(first, second)
        history = history_of(first, second)
        names = ["first", "second", "history", "tables"]
        self.assertCall(is_fewest, names, [first, second, history, tables], True)
        self.assertCall(is_fewest, names, [first, second, history[:-1], tables], False)
        self.assertCall(is_fewest, names, [first, first, [], []], True)

    def test_spoilt_tables(self):
        first, second = sample_pair()
        history = history_of(first, second)
        five, seven = fewest_tables(first, second)
        for tables in (
            [], [five], [seven], [seven, five], [five, five, seven], [five, seven, seven], [five, seven, (9, [])],
            [(1, []), five, seven], [five, ()], [(), seven], [five, (7,)], [five, (7, [], 7)], [five, (7, [], [])],
            [five, (7, [()])], [(5, []), seven], [(5, five[1][:-1]), seven], [(5, five[1][::-1]), seven],
            [(6, five[1]), seven], [(True, five[1]), seven], [five, (HUGE, [])], [five, (False, [])],
            [(5, [("p", (0,), 0), ("q", (0,), 0), ("s", (0,), 0)]), seven],
            [(5, [("p", (0,), 1), ("q", (0,), 0), ("s", (0,), 2)]), seven],
            [(5, [("p", (0,), 1), ("q", (0,), 0), ("s", (0,), True)]), seven],
        ):
            self.assertSame(is_fewest(first, second, history, tables), False)
            self.assertSame(is_fewest(first, second, history, listed(tables)), False)

    def test_true_is_no_light(self):
        web = web_of("ab", ["ab"])
        first, second = World.of_row(web, (1, 0)), World.of_row(web, (1, 1))
        self.assertSame(is_fewest(first, second, ["k00"], [(1, [])]), True)
        self.assertSame(is_fewest(first, second, ["k00"], [(True, [])]), False)
        first, second = World.of_row(web, (0, -1)), World.of_row(web, (0, 0))
        self.assertSame(is_fewest(first, second, ["k00"], [(False, [])]), False)

    def test_spoilt_histories(self):
        first, second = sample_pair()
        tables = fewest_tables(first, second)
        history = history_of(first, second)
        for spoilt in ([], history[:-1], history[1:], history[::-1], history + ["e"], history[:-1] + ["zz"], ["", *history]):
            self.assertSame(is_fewest(first, second, spoilt, tables), False)

    def test_what_is_long_is_not_fewest(self):
        first, second = star_pair(2)
        tables = fewest_tables(first, second)
        fewest, longest = fewest_deeds(first, second), most_deeds(first, second)
        self.assertLess(fewest, longest)
        for deeds in range(fewest, longest + 1):
            self.assertSame(is_fewest(first, second, history_of(first, second, deeds=deeds), tables), deeds == fewest)

    def test_it_raises_neither_not_coming_nor_too_large(self):
        first, second = sample_pair()
        self.assertSame(is_fewest(second, first, [], []), False)
        self.assertSame(is_fewest(second, first, ["e"], fewest_tables(first, second)), False)
        first, second = six_groups()
        history = history_of(first, second)
        self.assertSame(is_fewest(first, second, history, [(5, []), (6, [])]), False)
        self.assertSame(is_fewest(first, second, history, []), False)
        # Not even with a table that is fair and shows the right count.
        rows = table_by_words(first, second, 5)
        self.assertSame(is_fair_by_words(first, second, 5, rows), True)
        self.assertSame([row[2] for row in rows if row[0] == "a" and len(row[1]) == 6], [1])
        self.assertSame(is_fewest(first, second, history, [(5, rows), (6, [])]), False)


def six_groups():
    """Worlds of which a light has six open groups: one helper joins six due lamps to the spring."""
    web = web_of("abcdefghi", ["ah"] + ["h" + lamp for lamp in "bcdefg"] + [("hi", 6, 6)])
    first = World.of_row(web, (5, 0, 0, 0, 0, 0, 0, 0, 6))
    return first, World.of_row(web, (5, 5, 5, 5, 5, 5, 5, 6, 6))


def most(rows):
    """The count of places in the longest row."""
    return max(len(row[1]) for row in rows)


class Wrong(Case):
    calls = [(lower_table, ()), (is_lower_table, ([],)), (table_value, ([],))]

    def test_too_large(self):
        first, second = six_groups()
        self.assertSame(len(open_groups(first, second, 5)), 6)
        for call, more in self.calls:
            self.assertFails(TooLarge, {"limit": 5}, call, first, second, 5, *more)
            self.assertSame(call(first, second, 6, *more), {lower_table: [], is_lower_table: True, table_value: 0}[call])
        self.assertFails(TooLarge, {"limit": 5}, fewest_tables, first, second)
        self.assertFails(TooLarge, {"limit": 5}, is_lower_table, first, second, 5, [("zz", (), True)])

    def test_not_coming_goes_ahead_of_too_large(self):
        first, second = six_groups()
        worse = second.with_light("i", 7)
        paper = obstacle(first, worse)
        self.assertSame(paper, ("shade", "i", ("i",)))
        for call, more in self.calls:
            self.assertFails(NotComing, {"paper": paper}, call, first, worse, 5, *more)
        self.assertFails(NotComing, {"paper": paper}, open_groups, first, worse, 5)
        self.assertFails(NotComing, {"paper": paper}, fewest_tables, first, worse)

    def test_webs_differ(self):
        first, second = sample_pair()
        for other in (path_world(), sample_world(), second.over(second.web.with_ceiling("p", 99))):
            for call, more in self.calls + [(open_groups, ())]:
                self.assertFails(WebsDiffer, {}, call, first, other, 5, *more)
                for bad in NUMBERS:
                    self.assertFails(BadNumber, {"number": bad}, call, first, other, bad, *more)
            self.assertFails(WebsDiffer, {}, fewest_tables, first, other)
            self.assertFails(WebsDiffer, {}, is_fewest, first, other, ["zz"], [()])

    def test_bad_numbers(self):
        first, second = sample_pair()
        for call, more in self.calls + [(open_groups, ())]:
            for bad, other in itertools.product(NUMBERS, (second, second.with_light("p", 0))):
                self.assertFails(BadNumber, {"number": bad}, call, first, other, bad, *more)


if __name__ == "__main__":
    unittest.main()
