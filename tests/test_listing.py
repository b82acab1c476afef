"""Points 13, 27 and 28 and the interface of listing.py."""
import itertools
import unittest

from helpers import (
    LIMIT, Case, end_of, futures_by_words, histories_of, lengths_by_words, path_world, random_pairs, sample_world,
    small_worlds, steps_by_words, web_of, world_with,
)

from outshiners.coming import comes, obstacle
from outshiners.deeds import at_rest, is_history, replay
from outshiners.faults import BadNumber, NotComing, OutOfRange, TooLarge, WebsDiffer
from outshiners.joinings import fewest_deeds, most_deeds
from outshiners.listing import (
    between, count_futures, count_histories, futures, histories, history_at, history_rank, rank_of, rests, world_at,
)
from outshiners.webs import Web
from outshiners.worlds import World

HUGE = LIMIT + 1
NUMBERS = (True, False, HUGE, -HUGE)


def worlds_with_histories(many):
    """Two worlds with exactly so many shortest histories between them: 400 or 401."""
    if many == 400:
        # Two chains of three deeds each can be mixed in 20 ways, and there are 20 choices of bonds.
        web = web_of("abcdefgh", ["ab"] * 5 + ["bc"] * 2 + ["cd", "ef", "fg"] + ["gh"] * 2)
        first = World.of_row(web, (1, 0, 0, 0, 1, 0, 0, 0))
        return first, World.flat(web, 1)
    bonds = ["cf", "fg", "be", "de", "dg", "cf", "ac", "cd", "ad", "ef", "ac"]
    web = web_of("abcdefg", bonds)
    return World.of_row(web, (0, 2, 2, 1, 1, 0, 0)), World.of_row(web, (1, 2, 2, 2, 2, 2, 2))


def doubled_pairs(many, times):
    """A world of so many pairs of lamps that each have so many bonds, over which the brighter lamp gives its light."""
    rows = [
        (f"k{pair}{number}", f"a{pair}", f"b{pair}", None, None) for pair in range(many) for number in range(times)
    ]
    web = Web([(f"{side}{pair}", None) for side in "ab" for pair in range(many)], rows)
    return World(web, {lamp: 1 if lamp[0] == "a" else 0 for lamp in web})


def counts_by_words(first, second, most):
    """The counts of the histories of each length from 0 on, by a plain reading of points 13 and 28."""
    steps = {world.row: [after.row for _, after in steps_by_words(world)] for world in futures_by_words(first)}
    now = {first.row: 1}
    counts = []
    for _ in range(most + 1):
        counts.append(now.get(second.row, 0))
        later = {}
        for row, many in now.items():
            for after in steps[row]:
                later[after] = later.get(after, 0) + many
        now = later
    return counts


def count_by_words(first, second, deeds):
    """The count of the histories of this length from first to second."""
    return counts_by_words(first, second, deeds)[deeds]


def histories_between(first, second, deeds):
    """All histories of this length from first to second, in order."""
    found = [history for history in histories_of(first) if len(history) == deeds and replay(first, history) == second]
    return [list(history) for history in sorted(found)]


class Futures(Case):
    def test_all_futures(self):
        for world in small_worlds(80):
            wanted = futures_by_words(world)
            found = futures(world)
            self.assertSame(found, wanted)
            self.assertSame(count_futures(world), len(wanted))
            self.assertSame(rests(world), [future for future in wanted if not steps_by_words(future)])
            for rank, future in enumerate(wanted):
                self.assertSame(rank_of(world, future), rank)
                self.assertSame(world_at(world, rank), future)
                self.assertSame(at_rest(future), future in rests(world))

    def test_calls(self):
        world = sample_world()
        end = World.of_row(world.web, (5, 3, 3))
        self.assertCall(futures, ["world"], [world], [world, end])
        self.assertCall(count_futures, ["world"], [world], 2)
        self.assertCall(rests, ["world"], [world], [end])
        self.assertCall(rank_of, ["world", "other"], [world, end], 1)
        self.assertCall(rank_of, ["world", "other"], [end, end], 0)
        self.assertCall(world_at, ["world", "rank"], [world, 0], world)
        self.assertCall(between, ["first", "second"], [world, end], [world, end])
        self.assertCall(between, ["first", "second"], [world, world], [world])
        for call in (futures, rests):
            self.assertFreshList(lambda: call(world))
        self.assertFreshList(lambda: between(world, end))

    def test_between(self):
        for first, second in random_pairs(150):
            if comes(first, second):
                wanted = [future for future in futures_by_words(first) if second in futures_by_words(future)]
                self.assertSame(between(first, second), wanted)
            else:
                self.assertFails(NotComing, {"paper": obstacle(first, second)}, between, first, second)
                self.assertFails(NotComing, {"paper": obstacle(first, second)}, rank_of, first, second)

    def test_world_at_out_of_range(self):
        world = sample_world()
        for rank in (-1, 2, LIMIT, -LIMIT):
            self.assertFails(OutOfRange, {"number": rank, "low": 0, "high": 1}, world_at, world, rank)
        for bad in NUMBERS:
            self.assertFails(BadNumber, {"number": bad}, world_at, world, bad)

    def test_400_and_more(self):
        world = world_with(400)
        self.assertSame(count_futures(world), 400)
        found = futures(world)
        self.assertSame(len(found), 400)
        self.assertSame([rank_of(world, found[rank]) for rank in (0, 1, 200, 399)], [0, 1, 200, 399])
        self.assertSame(world_at(world, 399), found[399])
        self.assertFails(OutOfRange, {"number": 400, "low": 0, "high": 399}, world_at, world, 400)
        self.assertSame(between(world, found[399]), found)
        larger = world_with(401)
        self.assertSame(len(lengths_by_words(larger)), 401)
        for call, more in [
            (futures, ()), (count_futures, ()), (rests, ()), (rank_of, (larger,)), (world_at, (0,)), (between, (larger,)),
        ]:
            self.assertFails(TooLarge, {"limit": 400}, call, larger, *more)

    def test_too_large_goes_ahead(self):
        larger = world_with(401)
        worse = larger.with_light(larger.web.lamps[0], -1)
        self.assertFails(TooLarge, {"limit": 400}, rank_of, larger, worse)
        self.assertFails(TooLarge, {"limit": 400}, between, larger, worse)
        for rank in (-1, 1000, LIMIT):
            self.assertFails(TooLarge, {"limit": 400}, world_at, larger, rank)
        self.assertFails(BadNumber, {"number": True}, world_at, larger, True)
        self.assertFails(WebsDiffer, {}, rank_of, larger, sample_world())
        self.assertFails(WebsDiffer, {}, between, larger, sample_world())

    def test_the_largest_web(self):
        bonds = [first + second for first, second in itertools.combinations("abcdef", 2)] + ["ij"]
        world = World.of_row(web_of("abcdefghij", bonds), (9, 8, 7, 6, 5, 4, 3, 2, 1, 0))
        self.assertFails(TooLarge, {"limit": 400}, futures, world)
        self.assertFails(TooLarge, {"limit": 100}, count_histories, world, world)


def star_worlds():
    """Ten lamps and 16 bonds: two worlds between which there are many histories over 64 worlds."""
    rows = [(f"k{place}", "a", end, None, None) for place, end in enumerate("bcdefgbcdefg")]
    rows += [(f"m{place}", "h", end, None, 0) for place, end in enumerate("bcde")]
    web = Web([(lamp, None) for lamp in "abcdefghij"], rows)
    return World.of_row(web, (9, 1, 1, 1, 1, 1, 1, 5, 5, 5)), World.of_row(web, (9, 9, 9, 9, 9, 9, 9, 5, 5, 5))


def widened(world):
    """The same world with more lamps and bonds, over which nothing can be done, up to ten lamps and 16 bonds."""
    web = world.web
    lamps = [(f"zz{number}", None) for number in range(10 - len(web.lamps))]
    more = [(f"zz{number}", "zz0", "zz1", None, None) for number in range(16 - len(web.bonds))]
    wide = Web(web.lamp_rows + lamps, web.bond_rows + more)
    return World(wide, {**{lamp: 3 for lamp, _ in lamps}, **world.lights})


class Often(Case):
    def test_the_counts_of_all_lengths(self):
        first, second = star_worlds()
        self.assertSame(len(futures_by_words(first)), 64)
        found = [count_histories(first, second, deeds=deeds) for deeds in range(46)]
        self.assertSame(found, counts_by_words(first, second, 45))
        self.assertSame(found[6], 720 * 64)

    def test_the_least_and_the_greatest_lights(self):
        ends = [None, -LIMIT, LIMIT]
        for low, high, ceiling in itertools.product(ends, ends, ends):
            if low == LIMIT and high == -LIMIT:
                continue
            web = Web([("a", None), ("b", ceiling)], [("k", "a", "b", low, high)])
            for row in itertools.product((-LIMIT, -1, LIMIT), repeat=2):
                world = World.of_row(web, row)
                self.assertSame(futures(world), futures_by_words(world))

    def test_all_pairs_of_futures(self):
        first = path_world()
        ends = futures_by_words(first)
        for one in ends:
            for two in ends:
                if comes(one, two):
                    found = [count_histories(one, two, deeds=deeds) for deeds in range(8)]
                    self.assertSame(found, counts_by_words(one, two, 7))

    def test_the_largest_webs(self):
        for many in (100, 400):
            world = widened(world_with(many))
            self.assertSame((len(world.web.lamps), len(world.web.bonds)), (10, 16))
            ends = futures_by_words(world)
            self.assertSame(futures(world), ends)
            self.assertSame(count_futures(world), many)
            self.assertSame([rank_of(world, end) for end in ends[::37]], list(range(0, many, 37)))
        world = widened(world_with(100))
        for end in futures_by_words(world)[::9]:
            wanted = counts_by_words(world, end, 12)
            self.assertSame([count_histories(world, end, deeds=deeds) for deeds in range(13)], wanted)
            for deeds, many in enumerate(wanted):
                for rank in range(0, many, 1 + many // 3):
                    history = history_at(world, end, rank, deeds=deeds)
                    self.assertSame(is_history(world, end, history), True)
                    self.assertSame(history_rank(world, end, history), rank)

    def test_the_places_of_very_many_histories(self):
        first, second = star_worlds()
        before = None
        for rank in range(0, 46080, 1021):
            history = history_at(first, second, rank)
            self.assertSame(is_history(first, second, history), True)
            self.assertSame(history_rank(first, second, history), rank)
            self.assertSame(before is None or before < history, True)
            before = history
        self.assertFails(TooLarge, {"limit": 400}, histories, first, second)
        self.assertFails(OutOfRange, {"number": 46080, "low": 0, "high": 46079}, history_at, first, second, 46080)


class Histories(Case):
    def test_all_histories(self):
        for world in small_worlds(40, most_lamps=4, most_bonds=4):
            for row, lengths in lengths_by_words(world).items():
                second = World.of_row(world.web, row)
                for deeds in range(max(lengths) + 2):
                    wanted = histories_between(world, second, deeds)
                    self.assertSame(count_histories(world, second, deeds=deeds), len(wanted))
                    self.assertSame(histories(world, second, deeds=deeds), wanted)
                    for rank, history in enumerate(wanted):
                        self.assertSame(history_at(world, second, rank, deeds=deeds), history)
                        self.assertSame(history_rank(world, second, history), rank)
                    wrong = {"number": len(wanted), "low": 0, "high": len(wanted) - 1}
                    self.assertFails(OutOfRange, wrong, history_at, world, second, len(wanted), deeds=deeds)
                    wrong = {"number": -1, "low": 0, "high": len(wanted) - 1}
                    self.assertFails(OutOfRange, wrong, history_at, world, second, -1, deeds=deeds)

    def test_none_means_the_fewest(self):
        for world in small_worlds(30):
            for second in futures_by_words(world):
                fewest = fewest_deeds(world, second)
                self.assertSame(count_histories(world, second), count_histories(world, second, deeds=fewest))
                self.assertSame(histories(world, second, deeds=None), histories(world, second, deeds=fewest))
                self.assertSame(history_at(world, second, 0), histories(world, second)[0])

    def test_calls(self):
        first = path_world()
        second = World.of_row(first.web, (5, 5, 5, 5))
        self.assertSame((fewest_deeds(first, second), most_deeds(first, second)), (3, 5))
        self.assertSame([count_by_words(first, second, deeds) for deeds in range(7)], [0, 0, 0, 1, 1, 2, 0])
        names = ["first", "second"]
        self.assertCall(count_histories, names, [first, second], 1)
        self.assertCall(histories, names, [first, second], [["p", "q", "r"]])
        self.assertCall(history_at, names + ["rank"], [first, second, 0], ["p", "q", "r"])
        self.assertCall(history_rank, names + ["history"], [first, second, ["p", "q", "r"]], 0)
        found = histories(first, second, deeds=5)
        self.assertSame(found, histories_between(first, second, 5))
        self.assertSame(history_at(deeds=5, rank=1, second=second, first=first), found[1])
        self.assertSame(count_histories(deeds=5, second=second, first=first), len(found))
        self.assertCall(history_rank, names + ["history"], [first, second, found[1]], 1)
        self.assertFreshList(lambda: histories(first, second, deeds=5))
        self.assertFreshList(lambda: histories(first, second, deeds=5)[0])
        self.assertFreshList(lambda: history_at(first, second, 0))
        for call in (count_histories, histories):
            with self.assertRaises(TypeError):
                call(first, second, 5)
        with self.assertRaises(TypeError):
            history_at(first, second, 0, 5)

    def test_the_empty_history(self):
        world = path_world()
        self.assertSame(histories(world, world), [[]])
        self.assertSame(histories(world, world, deeds=0), [[]])
        self.assertSame(count_histories(world, world, deeds=0), 1)
        self.assertSame(history_at(world, world, 0), [])
        self.assertSame(history_rank(world, world, []), 0)
        self.assertSame(history_rank(world, world, ()), 0)
        self.assertSame(histories(world, World.of_row(world.web, (5, 5, 1, 0)), deeds=0), [])

    def test_lengths_that_do_not_occur(self):
        first = path_world()
        second = World.of_row(first.web, (5, 5, 5, 5))
        for deeds in (0, 1, 2, 6, 7, 99, 100):
            self.assertSame(count_histories(first, second, deeds=deeds), 0)
            self.assertSame(histories(first, second, deeds=deeds), [])
            for rank in (0, -1, 1, LIMIT):
                wrong = {"number": rank, "low": 0, "high": -1}
                self.assertFails(OutOfRange, wrong, history_at, first, second, rank, deeds=deeds)

    def test_histories_that_name_different_bonds_are_different(self):
        world = doubled_pairs(1, 3)
        end = end_of(world)
        self.assertSame(histories(world, end), [["k00"], ["k01"], ["k02"]])
        self.assertSame(history_rank(world, end, ["k02"]), 2)

    def test_400_and_401_histories(self):
        world = doubled_pairs(2, 8)
        self.assertSame(count_histories(world, World.flat(world.web, 1)), 128)
        self.assertSame(len(histories(world, World.flat(world.web, 1))), 128)
        first, second = worlds_with_histories(400)
        self.assertSame(count_histories(first, second), 400)
        found = histories(first, second)
        self.assertSame((len(found), found == sorted(found)), (400, True))
        self.assertSame([history_rank(first, second, found[rank]) for rank in (0, 7, 399)], [0, 7, 399])
        self.assertSame(history_at(first, second, 399), found[399])
        first, second = worlds_with_histories(401)
        self.assertSame(count_histories(first, second), 401)
        self.assertFails(TooLarge, {"limit": 400}, histories, first, second)
        last = history_at(first, second, 400)
        self.assertSame(history_rank(first, second, last), 400)
        self.assertFails(OutOfRange, {"number": 401, "low": 0, "high": 400}, history_at, first, second, 401)

    def test_very_many_histories(self):
        world = doubled_pairs(5, 3)
        end = World.flat(world.web, 1)
        many = count_histories(world, end)
        self.assertSame(many, 120 * 3 ** 5)
        self.assertSame(history_rank(world, end, history_at(world, end, many - 1)), many - 1)
        self.assertSame(history_at(world, end, 0), ["k00", "k10", "k20", "k30", "k40"])
        self.assertSame(history_at(world, end, many - 1), ["k42", "k32", "k22", "k12", "k02"])
        self.assertFails(OutOfRange, {"number": many, "low": 0, "high": many - 1}, history_at, world, end, many)

    def test_100_and_101_worlds(self):
        world = world_with(100)
        self.assertSame(len(lengths_by_words(world)), 100)
        end = end_of(world)
        self.assertSame(count_histories(world, end), len(histories(world, end)))
        self.assertSame(history_rank(world, end, history_at(world, end, 0)), 0)
        larger = world_with(101)
        self.assertSame(len(lengths_by_words(larger)), 101)
        for call, more in [(count_histories, ()), (histories, ()), (history_at, (0,)), (history_rank, ([],))]:
            self.assertFails(TooLarge, {"limit": 100}, call, larger, larger, *more)

    def test_too_many_worlds_go_ahead_of_too_many_histories(self):
        world = world_with(400)
        end = end_of(world)
        self.assertSame(fewest_deeds(world, end), 4)
        deeds = most_deeds(world, end)
        self.assertGreater(count_by_words(world, end, deeds), 400)
        self.assertFails(TooLarge, {"limit": 100}, histories, world, end, deeds=deeds)
        world = doubled_pairs(5, 3)
        self.assertFails(TooLarge, {"limit": 400}, histories, world, World.flat(world.web, 1))


class Ranks(Case):
    def test_no_rank(self):
        first = path_world()
        second = World.of_row(first.web, (5, 5, 5, 5))
        for history in (
            [], ["p"], ["p", "q"], ["q", "p", "r"], ["p", "q", "r", "r"], ["zz"], ["p", "zz", "r"], ["", "q"], ["a"],
            ["p"] * 200, ["No Name"] * 200,
        ):
            self.assertSame(history_rank(first, second, history), None)
        # A world that does not come has no history.
        for worse in (World.of_row(first.web, (4, 5, 5, 5)), World.of_row(first.web, (5, 5, 5, 9))):
            self.assertSame(history_rank(first, worse, ["p", "q", "r"]), None)
            self.assertSame(history_rank(first, worse, []), None)

    def test_every_length(self):
        first = path_world()
        for second in futures_by_words(first):
            for history in histories_of(first):
                right = replay(first, history) == second
                rank = history_rank(first, second, history)
                self.assertSame(rank is not None, right)
                if right:
                    self.assertSame(history_at(first, second, rank, deeds=len(history)), list(history))

    def test_too_large_goes_ahead_of_none(self):
        larger = world_with(101)
        worse = larger.with_light(larger.web.lamps[0], -1)
        for second, history in [(larger, ["zz"]), (worse, []), (larger, ["k00"] * 200), (worse, ["zz"])]:
            self.assertFails(TooLarge, {"limit": 100}, history_rank, larger, second, history)
        self.assertFails(WebsDiffer, {}, history_rank, larger, sample_world(), ["zz"])


class Wrong(Case):
    calls = [(count_histories, ()), (histories, ()), (history_at, (0,))]

    def test_deeds(self):
        first = path_world()
        for call, more in self.calls:
            for deeds in (-1, 101, LIMIT, -LIMIT):
                wrong = {"number": deeds, "low": 0, "high": 100}
                self.assertFails(OutOfRange, wrong, call, first, first, *more, deeds=deeds)
                # It goes ahead of what follows in the order of errors.
                self.assertFails(OutOfRange, wrong, call, world_with(101), world_with(101), *more, deeds=deeds)
                self.assertFails(OutOfRange, wrong, call, first, first.with_light("a", 0), *more, deeds=deeds)
            for bad in NUMBERS:
                self.assertFails(BadNumber, {"number": bad}, call, first, first, *more, deeds=bad)
                self.assertFails(BadNumber, {"number": bad}, call, first, sample_world(), *more, deeds=bad)
        wrong = {"number": 101, "low": 0, "high": 100}
        self.assertFails(OutOfRange, wrong, history_at, first, first, 7, deeds=101)
        self.assertFails(OutOfRange, wrong, history_at, first, first, -7, deeds=101)

    def test_ranks(self):
        first = path_world()
        for bad in NUMBERS:
            self.assertFails(BadNumber, {"number": bad}, history_at, first, first, bad)
            self.assertFails(BadNumber, {"number": bad}, history_at, first, sample_world(), bad, deeds=HUGE)
            self.assertFails(BadNumber, {"number": bad}, history_at, world_with(101), world_with(101), bad)
        for rank in (-1, 99, LIMIT):
            self.assertFails(TooLarge, {"limit": 100}, history_at, world_with(101), world_with(101), rank)
            worse = first.with_light("a", 0)
            self.assertFails(NotComing, {"paper": ("dimmer", "a")}, history_at, first, worse, rank)
            self.assertFails(WebsDiffer, {}, history_at, first, sample_world(), rank)
            self.assertFails(OutOfRange, {"number": rank, "low": 0, "high": 0}, history_at, first, first, rank)

    def test_not_coming(self):
        for first, second in random_pairs(60, seed=15):
            paper = obstacle(first, second)
            if paper is not None:
                for call, more in self.calls:
                    self.assertFails(NotComing, {"paper": paper}, call, first, second, *more)
                    self.assertFails(NotComing, {"paper": paper}, call, first, second, *more, deeds=3)
                self.assertSame(history_rank(first, second, []), None)

    def test_not_coming_behind_too_large(self):
        larger = world_with(101)
        worse = larger.with_light(larger.web.lamps[0], -1)
        for call, more in self.calls:
            self.assertFails(TooLarge, {"limit": 100}, call, larger, worse, *more)

    def test_webs_differ(self):
        first = path_world()
        for other in (sample_world(), first.over(first.web.with_span("p", 0, None))):
            for call, more in self.calls + [(history_rank, ([],)), (rank_of, ()), (between, ())]:
                self.assertFails(WebsDiffer, {}, call, first, other, *more)
            for call, more in self.calls:
                self.assertFails(WebsDiffer, {}, call, first, other, *more, deeds=101)
        self.assertSame(is_history(first, first, []), True)


if __name__ == "__main__":
    unittest.main()
