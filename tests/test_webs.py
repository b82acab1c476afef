"""Point 8 and the interface of webs.py."""
import itertools
import unittest

from helpers import LIMIT, Case, listed, sample_web, tupled

from outshiners.faults import BadName, BadNumber, BadSpan, Doubled, OutOfRange, SelfBond, Unknown
from outshiners.spans import Span
from outshiners.webs import Web

LAMPS = [("a", None), ("b", 4), ("c", None)]
BONDS = [("k", "a", "b", None, None), ("m", "b", "c", 0, 3)]
HUGE = LIMIT + 1


def lamps_of(count):
    """Rows of this many lamps."""
    return [(f"l{number}", None) for number in range(count)]


def bonds_of(count):
    """Rows of this many bonds between l0 and l1."""
    return [(f"k{number}", "l0", "l1", None, None) for number in range(count)]


class Made(Case):
    def test_rows_are_kept_in_name_order(self):
        lamps = [("b", 4), ("a2", 0), ("a10", None)]
        bonds = [("z", "b", "a2", 1, 1), ("b", "a10", "b", None, 5), ("a", "a2", "a10", -3, None)]
        wanted = [("a", "a10", "a2", -3, None), ("b", "a10", "b", None, 5), ("z", "a2", "b", 1, 1)]
        for lamp_rows in itertools.permutations(lamps):
            for bond_rows in itertools.permutations(bonds):
                web = Web(lamp_rows, bond_rows)
                self.assertSame(web.lamps, ["a10", "a2", "b"])
                self.assertSame(web.lamp_rows, [("a10", None), ("a2", 0), ("b", 4)])
                self.assertSame(web.bonds, ["a", "b", "z"])
                self.assertSame(web.bond_rows, wanted)
                self.assertSame(web == Web(lamps, bonds), True)

    def test_by_position_and_by_name_and_of_any_lists(self):
        for web in [
            Web(LAMPS, BONDS), Web(lamps=LAMPS, bonds=BONDS), Web(bonds=BONDS, lamps=LAMPS), Web(LAMPS, bonds=BONDS),
            Web(listed(LAMPS), listed(BONDS)), Web(tupled(LAMPS), tupled(BONDS)), Web(tuple(listed(LAMPS)), BONDS),
        ]:
            self.assertSame((web.lamp_rows, web.bond_rows), (LAMPS, BONDS))

    def test_bonds_may_be_left_out(self):
        self.assertSame((Web(LAMPS).bonds, Web(LAMPS).bond_rows), ([], []))
        self.assertSame(Web([("a", 0)]).lamp_rows, [("a", 0)])

    def test_a_lamp_and_a_bond_may_share_a_name_and_bonds_may_share_ends(self):
        web = Web([("a", None), ("b", None)], [("a", "a", "b", 1, 2), ("b", "b", "a", 3, 4)])
        self.assertSame((web.ends("a"), web.ends("b")), (("a", "b"), ("a", "b")))
        self.assertSame((web.span("a").text, web.span("b").text), ("1..2", "3..4"))

    def test_the_greatest_web(self):
        web = Web(lamps_of(10), bonds_of(16))
        self.assertEqual((len(web.lamps), len(web.bonds)), (10, 16))

    def test_what_is_passed_can_be_changed_later(self):
        lamps, bonds = listed(LAMPS), listed(BONDS)
        web = Web(lamps, bonds)
        lamps[0][1] = 9
        lamps.pop()
        bonds[0][3] = 9
        bonds.clear()
        self.assertSame((web.lamp_rows, web.bond_rows), (LAMPS, BONDS))

    def test_what_is_passed_is_not_changed(self):
        lamps, bonds = listed(LAMPS)[::-1], listed(BONDS)[::-1]
        Web(lamps, bonds)
        self.assertSame((lamps, bonds), (listed(LAMPS)[::-1], listed(BONDS)[::-1]))


class MadeWrong(Case):
    def test_bad_names(self):
        for bad in ("", "A", "1a", "abcdefghi", "a b", "*"):
            self.assertFails(BadName, {"name": bad}, Web, [(bad, None)])
            self.assertFails(BadName, {"name": bad}, Web, LAMPS, [(bad, "a", "b", None, None)])
        self.assertFails(BadName, {"name": "X"}, Web, [("a", None), ("X", None), ("Y", None)])
        self.assertFails(BadName, {"name": "Z"}, Web, [("a", None), ("Z", None)], [("Y", "a", "Z", None, None)])

    def test_bad_numbers(self):
        for bad in (True, False, HUGE, -HUGE):
            self.assertFails(BadNumber, {"number": bad}, Web, [("a", bad)])
            self.assertFails(BadNumber, {"number": bad}, Web, LAMPS, [("k", "a", "b", bad, None)])
            self.assertFails(BadNumber, {"number": bad}, Web, LAMPS, [("k", "a", "b", None, bad)])
        rows = [("k", "a", "b", 0, HUGE), ("m", "a", "b", -HUGE, True)]
        self.assertFails(BadNumber, {"number": HUGE}, Web, LAMPS, rows)
        self.assertFails(BadNumber, {"number": -HUGE}, Web, LAMPS, rows[::-1])
        self.assertFails(BadNumber, {"number": True}, Web, [("a", None), ("b", True)], rows)

    def test_ends_of_the_numbers(self):
        web = Web([("a", LIMIT), ("b", -LIMIT)], [("k", "a", "b", -LIMIT, LIMIT)])
        self.assertSame(web.bond_rows, [("k", "a", "b", -LIMIT, LIMIT)])

    def test_bad_spans(self):
        rows = [("m", "a", "b", 3, 3), ("l", "a", "b", 9, 7), ("k", "a", "b", 5, 2)]
        self.assertFails(BadSpan, {"low": 9, "high": 7}, Web, LAMPS, rows)
        self.assertFails(BadSpan, {"low": 5, "high": 2}, Web, LAMPS, rows[::-1])

    def test_doubled(self):
        lamps = [(name, None) for name in ("a", "b", "b", "a")]
        self.assertFails(Doubled, {"name": "b"}, Web, lamps)
        self.assertFails(Doubled, {"name": "a"}, Web, [("b", 1), ("a", 1), ("a", 2), ("b", 1)])
        bonds = [(name, "a", "b", None, None) for name in ("m", "k", "k", "m")]
        self.assertFails(Doubled, {"name": "k"}, Web, LAMPS, bonds)
        self.assertFails(Doubled, {"name": "b"}, Web, lamps, bonds)

    def test_self_bonds(self):
        self.assertFails(SelfBond, {"bond": "k"}, Web, LAMPS, [("k", "a", "a", None, None)])
        self.assertFails(SelfBond, {"bond": "k"}, Web, LAMPS, [("k", "zz", "zz", None, None)])
        self.assertFails(SelfBond, {"bond": "k"}, Web, LAMPS, [("k", "No Name", "No Name", None, None)])
        rows = [("z", "a", "q", None, None), ("m", "b", "b", None, None), ("k", "a", "a", None, None)]
        self.assertFails(SelfBond, {"bond": "m"}, Web, LAMPS, rows)

    def test_unknown_ends(self):
        self.assertFails(Unknown, {"name": "q"}, Web, LAMPS, [("k", "a", "q", None, None)])
        self.assertFails(Unknown, {"name": "z"}, Web, LAMPS, [("k", "z", "q", None, None)])
        self.assertFails(Unknown, {"name": "q"}, Web, LAMPS, [("k", "q", "a", None, None), ("b", "p", "a", None, None)])
        for end in ("", "No Name", "abcdefghi", "A"):
            self.assertFails(Unknown, {"name": end}, Web, LAMPS, [("k", "a", end, None, None)])
        # The name of a bond is no lamp.
        self.assertFails(Unknown, {"name": "k"}, Web, LAMPS, [("k", "a", "k", None, None)])

    def test_counts(self):
        self.assertFails(OutOfRange, {"number": 0, "low": 1, "high": 10}, Web, [])
        self.assertFails(OutOfRange, {"number": 11, "low": 1, "high": 10}, Web, lamps_of(11))
        self.assertFails(OutOfRange, {"number": 17, "low": 0, "high": 16}, Web, lamps_of(2), bonds_of(17))
        self.assertFails(OutOfRange, {"number": 12, "low": 1, "high": 10}, Web, lamps_of(12), bonds_of(17))

    def test_the_order_of_errors(self):
        """Each next fault stands in front of the one before it in the rows, and goes ahead of it."""
        lamps, bonds = lamps_of(11), bonds_of(17)
        self.assertFails(OutOfRange, {"number": 11, "low": 1, "high": 10}, Web, lamps, bonds)
        bonds = bonds + [("u", "l0", "q", None, None)]
        self.assertFails(Unknown, {"name": "q"}, Web, lamps, bonds)
        bonds = bonds + [("v", "l0", "l0", None, None)]
        self.assertFails(SelfBond, {"bond": "v"}, Web, lamps, bonds)
        bonds = bonds + [("v", "l0", "l1", None, None)]
        self.assertFails(Doubled, {"name": "v"}, Web, lamps, bonds)
        bonds = bonds + [("w", "l0", "l1", 2, 1)]
        self.assertFails(BadSpan, {"low": 2, "high": 1}, Web, lamps, bonds)
        bonds = bonds + [("x", "l0", "l1", 2, False)]
        self.assertFails(BadNumber, {"number": False}, Web, lamps, bonds)
        bonds = bonds + [("Y", "l0", "l1", 2, 3)]
        self.assertFails(BadName, {"name": "Y"}, Web, lamps, bonds)

    def test_no_lamps_but_a_bond(self):
        self.assertFails(Unknown, {"name": "a"}, Web, [], [("k", "a", "b", None, None)])


class Asked(Case):
    def setUp(self):
        self.web = Web(LAMPS, BONDS + [("z", "c", "b", 7, None)])

    def test_lists_are_new_each_time(self):
        for name in ("lamps", "bonds", "lamp_rows", "bond_rows"):
            self.assertFreshList(lambda: getattr(self.web, name))
        self.assertFreshList(lambda: self.web.bonds_of("b"))

    def test_ceiling(self):
        self.assertCall(self.web.ceiling, ["lamp"], ["b"], 4)
        self.assertCall(self.web.ceiling, ["lamp"], ["a"], None)
        for bad in ("k", "q", "", "B"):
            self.assertFails(Unknown, {"name": bad}, self.web.ceiling, bad)

    def test_ends(self):
        self.assertCall(self.web.ends, ["bond"], ["k"], ("a", "b"))
        self.assertCall(self.web.ends, ["bond"], ["z"], ("b", "c"))
        for bad in ("a", "q", "", "K"):
            self.assertFails(Unknown, {"name": bad}, self.web.ends, bad)

    def test_span(self):
        self.assertCall(self.web.span, ["bond"], ["m"], Span(0, 3))
        self.assertCall(self.web.span, ["bond"], ["k"], Span())
        self.assertIsInstance(self.web.span("z"), Span)
        self.assertFails(Unknown, {"name": "a"}, self.web.span, "a")

    def test_lets(self):
        for bond, light, wanted in [
            ("m", -1, False), ("m", 0, True), ("m", 3, True), ("m", 4, False), ("k", LIMIT, True), ("k", -LIMIT, True),
            ("z", 6, False), ("z", 7, True), ("z", LIMIT, True),
        ]:
            self.assertCall(self.web.lets, ["bond", "light"], [bond, light], wanted)
        self.assertFails(Unknown, {"name": "q"}, self.web.lets, "q", 3)
        for bad in (True, False, HUGE, -HUGE):
            self.assertFails(BadNumber, {"number": bad}, self.web.lets, "m", bad)
            self.assertFails(BadNumber, {"number": bad}, self.web.lets, "q", bad)

    def test_across(self):
        self.assertCall(self.web.across, ["bond", "lamp"], ["k", "a"], "b")
        self.assertCall(self.web.across, ["bond", "lamp"], ["k", "b"], "a")
        self.assertFails(Unknown, {"name": "c"}, self.web.across, "k", "c")
        self.assertFails(Unknown, {"name": "q"}, self.web.across, "k", "q")
        self.assertFails(Unknown, {"name": "q"}, self.web.across, "q", "p")
        self.assertFails(Unknown, {"name": "q"}, self.web.across, lamp="p", bond="q")

    def test_bonds_of(self):
        self.assertCall(self.web.bonds_of, ["lamp"], ["b"], ["k", "m", "z"])
        self.assertCall(self.web.bonds_of, ["lamp"], ["a"], ["k"])
        self.assertSame(Web([("a", None), ("b", None)]).bonds_of("b"), [])
        self.assertFails(Unknown, {"name": "k"}, self.web.bonds_of, "k")

    def test_lamps_in_the_web(self):
        self.assertSame([lamp in self.web for lamp in ("a", "b", "c", "k", "", "A", "ab")], [True] * 3 + [False] * 4)

    def test_the_loop(self):
        self.assertSame(list(self.web), ["a", "b", "c"])
        self.assertSame([(x, y) for x in self.web for y in self.web], list(itertools.product("abc", repeat=2)))

    def test_equality(self):
        web = sample_web()
        self.assertSame(web == Web(LAMPS[::-1], [("m", "c", "b", 0, 3), ("k", "b", "a", None, None)]), True)
        for other in [
            Web(LAMPS), Web(LAMPS, BONDS[:1]), Web(LAMPS[:2] + [("c", 0)], BONDS), Web(LAMPS + [("d", None)], BONDS),
            Web(LAMPS, [("k", "a", "b", None, None), ("m", "b", "c", 0, 4)]),
            Web(LAMPS, [("k", "a", "c", None, None), ("m", "b", "c", 0, 3)]),
            Web(LAMPS, [("k", "a", "b", None, None), ("n", "b", "c", 0, 3)]),
            3, "web", LAMPS, (LAMPS, BONDS), {},
        ]:
            self.assertSame(web == other, False)
            self.assertSame(other == web, False)


class Changed(Case):
    def setUp(self):
        self.web = sample_web()

    def tearDown(self):
        self.assertSame((self.web.lamp_rows, self.web.bond_rows), (LAMPS, BONDS))

    def test_with_ceiling(self):
        for ceiling in (7, None, 0, -LIMIT, LIMIT):
            wanted = Web([("a", None), ("b", ceiling), ("c", None)], BONDS)
            self.assertCall(self.web.with_ceiling, ["lamp", "ceiling"], ["b", ceiling], wanted)
        self.assertFails(Unknown, {"name": "k"}, self.web.with_ceiling, "k", 3)
        self.assertFails(Unknown, {"name": "k"}, self.web.with_ceiling, "k", None)
        for bad in (True, HUGE):
            self.assertFails(BadNumber, {"number": bad}, self.web.with_ceiling, "b", bad)
            self.assertFails(BadNumber, {"number": bad}, self.web.with_ceiling, "k", bad)

    def test_with_span(self):
        for low, high in [(1, 2), (None, None), (None, 0), (0, None), (5, 5), (-LIMIT, LIMIT)]:
            wanted = Web(LAMPS, [("k", "a", "b", low, high), BONDS[1]])
            self.assertCall(self.web.with_span, ["bond", "low", "high"], ["k", low, high], wanted)

    def test_with_span_fails(self):
        self.assertFails(Unknown, {"name": "a"}, self.web.with_span, "a", 1, 2)
        self.assertFails(BadSpan, {"low": 2, "high": 1}, self.web.with_span, "k", 2, 1)
        self.assertFails(BadSpan, {"low": 2, "high": 1}, self.web.with_span, "a", 2, 1)
        self.assertFails(BadNumber, {"number": True}, self.web.with_span, "a", True, False)
        self.assertFails(BadNumber, {"number": False}, self.web.with_span, "a", 2, False)
        self.assertFails(BadNumber, {"number": -HUGE}, self.web.with_span, "k", 2, -HUGE)

    def test_with_bond(self):
        wanted = Web(LAMPS, BONDS + [("a", "a", "c", 1, 2)])
        self.assertSame(self.web.with_bond("a", "c", "a", low=1, high=2), wanted)
        self.assertSame(self.web.with_bond(high=2, second="a", name="a", low=1, first="c"), wanted)
        wanted = Web(LAMPS, BONDS + [("z", "a", "b", None, None)])
        self.assertSame(self.web.with_bond("z", "a", "b"), wanted)
        self.assertSame(self.web.with_bond("z", "a", "b", high=4).bond_rows[-1], ("z", "a", "b", None, 4))
        self.assertSame(self.web.with_bond("z", "a", "b", low=4).bond_rows[-1], ("z", "a", "b", 4, None))
        with self.assertRaises(TypeError):
            self.web.with_bond("z", "a", "b", 1, 2)

    def test_with_bond_fails(self):
        call = self.web.with_bond
        full = Web(lamps_of(2), bonds_of(16))
        wrong = {"number": 17, "low": 0, "high": 16}
        self.assertFails(OutOfRange, wrong, full.with_bond, "z", "l0", "l1")
        self.assertFails(Unknown, {"name": "p"}, full.with_bond, "z", "p", "q")
        self.assertFails(Unknown, {"name": "q"}, call, "z", "a", "q")
        self.assertFails(SelfBond, {"bond": "z"}, call, "z", "q", "q")
        self.assertFails(Doubled, {"name": "k"}, call, "k", "q", "q")
        self.assertFails(BadSpan, {"low": 3, "high": 2}, call, "k", "q", "q", low=3, high=2)
        self.assertFails(BadNumber, {"number": True}, call, "k", "q", "q", low=True, high=HUGE)
        self.assertFails(BadName, {"name": "K"}, call, "K", "q", "q", low=True, high=HUGE)

    def test_without_bond(self):
        self.assertCall(self.web.without_bond, ["bond"], ["k"], Web(LAMPS, BONDS[1:]))
        self.assertSame(self.web.without_bond("k").without_bond("m"), Web(LAMPS))
        for bad in ("a", "q", ""):
            self.assertFails(Unknown, {"name": bad}, self.web.without_bond, bad)


if __name__ == "__main__":
    unittest.main()
