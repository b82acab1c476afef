"""Points 31 and 33 and the interface of pieces.py."""
import copy
import random
import unittest

from helpers import LIMIT, Case, listed, random_piece, random_surrounding, sample_web, sample_world, tupled, web_of

from outshiners.faults import BordersDiffer, Doubled, OutOfRange, Unknown
from outshiners.pieces import Piece, glue
from outshiners.webs import Web
from outshiners.worlds import World


def lone(lamp="a", light=0, ceiling=None):
    """The world of one lamp."""
    return World(Web([(lamp, ceiling)]), {lamp: light})


def other_piece():
    """A piece with the border a, b of the sample world and the inner lamp d."""
    web = Web([("a", None), ("b", 4), ("d", 0)], [("n", "a", "d", None, 3), ("o", "b", "a", None, None)])
    return Piece(World(web, {"a": 5, "b": 1, "d": 9}), ["b", "a"])


class Pieces(Case):
    def test_properties(self):
        world = sample_world()
        piece = Piece(world, ["c", "a"])
        self.assertSame(piece.world, world)
        self.assertSame(piece.border, ["a", "c"])
        self.assertSame(piece.inner, ["b"])
        self.assertSame(piece.border_rows, [("a", 5, None), ("c", 3, None)])
        self.assertSame(Piece(world, ["b"]).border_rows, [("b", 1, 4)])
        for name in ("border", "inner", "border_rows"):
            self.assertFreshList(lambda: getattr(piece, name))

    def test_calls(self):
        world = sample_world()
        wanted = Piece(world, ["a", "b"])
        for border in (["a", "b"], ["b", "a"]):
            self.assertCall(Piece, ["world", "border"], [world, border], wanted)
        self.assertCall(Piece, ["world"], [world], Piece(world, []))
        self.assertSame(Piece(world).border, [])
        self.assertSame(Piece(world).inner, ["a", "b", "c"])
        self.assertSame(Piece(world).border_rows, [])

    def test_it_keeps_what_it_was_given(self):
        border = ["a", "b"]
        piece = Piece(sample_world(), border)
        border.append("c")
        border[0] = "z"
        self.assertSame((piece.border, piece.inner), (["a", "b"], ["c"]))

    def test_sizes(self):
        six = World.flat(web_of("abcdef", ["ab"] * 8), 0)
        piece = Piece(six, "abc")
        self.assertSame((len(piece.inner), len(piece.border), len(piece.world.web.bonds)), (3, 3, 8))
        self.assertSame(Piece(lone(), ["a"]).inner, [])
        self.assertSame(Piece(World.flat(web_of("abc", []), 0), ["a", "b", "c"]).inner, [])
        seven = World.flat(web_of("abcdefg", ["ab"] * 9), 0)
        nine = World.flat(web_of("abcdef", ["ab"] * 9), 0)
        for border in ([], ["a"], list("abcd"), list("abcdefg")):
            self.assertFails(OutOfRange, {"number": 7, "low": 1, "high": 6}, Piece, seven, border)
        for border in ([], ["a"], list("abcd")):
            self.assertFails(OutOfRange, {"number": 9, "low": 0, "high": 8}, Piece, nine, border)
        self.assertFails(OutOfRange, {"number": 4, "low": 0, "high": 3}, Piece, six, ["d", "c", "b", "a"])
        self.assertFails(OutOfRange, {"number": 6, "low": 0, "high": 3}, Piece, six, list("abcdef"))

    def test_wrong_borders(self):
        world = sample_world()
        seven = World.flat(web_of("abcdefg", ["ab"] * 9), 0)
        for bad in ("z", "k", "", "A", "No Name"):
            self.assertFails(Unknown, {"name": bad}, Piece, world, ["a", bad, "zz"])
            self.assertFails(Unknown, {"name": bad}, Piece, border=[bad], world=seven)
            self.assertFails(Doubled, {"name": bad}, Piece, seven, [bad, "a", bad, "a"])
        self.assertFails(Doubled, {"name": "a"}, Piece, world, ["z", "b", "a", "a", "b"])
        self.assertFails(Doubled, {"name": "b"}, Piece, world, ("b", "b", "b", "b"))
        self.assertFails(Unknown, {"name": "z"}, Piece, world, ["z", "a", "b", "c", "y"])

    def test_equal(self):
        world = sample_world()
        piece = Piece(world, ["a"])
        self.assertSame(piece == Piece(sample_world(), ("a",)), True)
        others = [
            Piece(world), Piece(world, ["b"]), Piece(world, ["a", "b"]), Piece(world.with_light("c", 4), ["a"]),
            Piece(world.over(sample_web().with_ceiling("c", 9)), ["a"]), Piece(world.over(sample_web().without_bond("k")), ["a"]),
        ]
        for other in others + [world, "piece", 3, (world, ["a"]), sample_web()]:
            self.assertSame(piece == other, False)
            self.assertSame(other == piece, False)

    def test_without_lamp(self):
        piece = Piece(sample_world(), ["a"])
        wanted = Piece(World(Web([("a", None), ("c", None)]), {"a": 5, "c": 3}), ["a"])
        self.assertCall(piece.without_lamp, ["lamp"], ["b"], wanted)
        wanted = Piece(World(Web([("a", None), ("b", 4)], [("k", "a", "b", None, None)]), {"a": 5, "b": 1}), ["a"])
        self.assertCall(piece.without_lamp, ["lamp"], ["c"], wanted)
        for bad in ("a", "z", "k", "", "No Name"):
            self.assertFails(Unknown, {"name": bad}, piece.without_lamp, bad)
        self.assertSame(piece, Piece(sample_world(), ["a"]))

    def test_a_bond_with_the_name_of_the_lamp_stays(self):
        web = Web([("a", None), ("b", None), ("c", None)], [("a", "b", "c", None, None), ("b", "a", "c", None, None)])
        found = Piece(World.flat(web, 0)).without_lamp("a")
        self.assertSame(found.world.web.bond_rows, [("a", "b", "c", None, None)])

    def test_the_only_lamp(self):
        self.assertFails(OutOfRange, {"number": 0, "low": 1, "high": 6}, Piece(lone()).without_lamp, "a")
        self.assertFails(Unknown, {"name": "a"}, Piece(lone(), ["a"]).without_lamp, "a")
        self.assertFails(Unknown, {"name": "b"}, Piece(lone()).without_lamp, lamp="b")
        two = Piece(World.flat(web_of("ab", ["ab"]), 1), ["b"])
        self.assertSame(two.without_lamp("a"), Piece(lone("b", 1), ["b"]))

    def test_without_bond(self):
        piece = Piece(sample_world(), ["a", "c"])
        wanted = Piece(sample_world().over(sample_web().without_bond("m")), ["a", "c"])
        self.assertCall(piece.without_bond, ["bond"], ["m"], wanted)
        for bad in ("a", "z", "", "No Name"):
            self.assertFails(Unknown, {"name": bad}, piece.without_bond, bad)


class Glued(Case):
    def test_glue(self):
        first = Piece(sample_world(), ["a", "b"])
        second = other_piece()
        web = Web([("a", None), ("b", 4), ("c", None), ("d", 0)], [
            ("k", "a", "b", None, None), ("m", "b", "c", 0, 3), ("n", "a", "d", None, 3), ("o", "a", "b", None, None),
        ])
        wanted = World(web, {"a": 5, "b": 1, "c": 3, "d": 9})
        self.assertCall(glue, ["first", "second"], [first, second], wanted)
        self.assertCall(glue, ["first", "second"], [second, first], wanted)

    def test_borders_of_no_lamp(self):
        wanted = World(Web([("a", 3), ("b", None)]), {"a": 7, "b": LIMIT})
        self.assertSame(glue(Piece(lone("b", LIMIT)), Piece(lone("a", 7, 3))), wanted)

    def test_pieces_that_are_all_border(self):
        first = Piece(lone("a", 7, 3), ["a"])
        self.assertSame(glue(first, first), lone("a", 7, 3))
        three = World.flat(web_of("abc", []), 1)
        self.assertSame(glue(Piece(three, "abc"), Piece(three, "cab")), three)

    def test_all_lamps_and_bonds_are_kept(self):
        rng = random.Random(51)
        for _ in range(200):
            piece = random_piece(rng)
            other = random_surrounding(rng, piece)
            both = glue(piece, other)
            self.assertSame(both.web.lamps, sorted(set(piece.world.web.lamps + other.world.web.lamps)))
            self.assertSame(both.web.bond_rows, sorted(piece.world.web.bond_rows + other.world.web.bond_rows))
            for part in (piece, other):
                for lamp, light in part.world:
                    self.assertSame((both.light(lamp), both.web.ceiling(lamp)), (light, part.world.web.ceiling(lamp)))
            self.assertSame(glue(other, piece), both)

    def test_doubled(self):
        def piece(lamps, bonds, border):
            web = Web([(lamp, None) for lamp in lamps], [(bond, "a", "b", None, None) for bond in bonds])
            return Piece(World.flat(web, 0), border)

        first = piece("abcde", ["k", "m"], "ab")
        self.assertFails(Doubled, {"name": "d"}, glue, first, piece("abed", ["k"], "ab"))
        self.assertFails(Doubled, {"name": "c"}, glue, first, piece("abc", [], "a"))
        self.assertFails(Doubled, {"name": "k"}, glue, first, piece("ab", ["m", "k"], "ab"))
        self.assertFails(Doubled, {"name": "m"}, glue, first, piece("abf", ["m", "l"], "b"))
        # A lamp and a bond may have the same name.
        self.assertSame(glue(first, piece("abk", ["c"], "ab")).web.bonds, ["c", "k", "m"])

    def test_borders_differ(self):
        first = Piece(sample_world(), ["a", "b"])
        web = Web([("a", None), ("b", 4)])

        def border(lights, border=("a", "b"), web=web):
            return Piece(World(web, lights), border)

        self.assertSame(glue(first, border({"a": 5, "b": 1})), sample_world())
        for other, lamp in [
            (border({"a": 5, "b": 2}), "b"), (border({"a": 4, "b": 2}), "a"),
            (border({"a": 5, "b": 1}, web=web.with_ceiling("b", None)), "b"),
            (border({"a": 5, "b": 1}, web=web.with_ceiling("a", 5)), "a"),
            (border({"a": 5, "b": 1}, ["a"]), "b"), (border({"a": 5, "b": 1}, ["b"]), "a"),
            (border({"a": 5, "b": 1}, []), "a"), (Piece(lone("z")), "a"), (Piece(lone("z"), ["z"]), "a"),
            (Piece(World.flat(Web([("a", None), ("b", 4), ("c", None)]), 5), "c"), "a"),
        ]:
            self.assertFails(BordersDiffer, {"lamp": lamp}, glue, first, other)
            self.assertFails(BordersDiffer, {"lamp": lamp}, glue, other, first)
        # c is inner in the one and a border lamp in the other one.
        third = Piece(World(Web([("a", None), ("b", 4), ("c", None)]), {"a": 5, "b": 1, "c": 3}), ["a", "b", "c"])
        self.assertFails(BordersDiffer, {"lamp": "c"}, glue, first, third)
        self.assertFails(BordersDiffer, {"lamp": "c"}, glue, third, first)

    def test_the_order_of_errors(self):
        big = Piece(World.flat(web_of("abcdef", ["ab"]), 0))
        other = Piece(World.flat(web_of("ghijkl", []), 0))
        self.assertFails(OutOfRange, {"number": 12, "low": 1, "high": 10}, glue, big, other)
        self.assertFails(BordersDiffer, {"lamp": "l"}, glue, big, Piece(World.flat(web_of("ghijkl", []), 0), ["l"]))
        same_bond = Piece(World.flat(web_of("ghijkl", ["gh"]), 0), ["l"])
        self.assertFails(Doubled, {"name": "k00"}, glue, big, same_bond)
        same_lamp = Piece(World.flat(web_of("fgijkl", ["gi"]), 0), ["l"])
        self.assertFails(Doubled, {"name": "f"}, glue, second=same_lamp, first=big)

    def test_the_largest(self):
        first = Piece(World.flat(web_of("abcdef", ["ab"] * 8), 0), "ab")
        web = Web([(lamp, None) for lamp in "abwxyz"], [(f"x{number}", "a", "z", None, None) for number in range(8)])
        both = glue(first, Piece(World.flat(web, 0), "ab"))
        self.assertSame((len(both.web.lamps), len(both.web.bonds)), (10, 16))
        web = Web([(lamp, None) for lamp in "avwxyz"])
        self.assertFails(
            OutOfRange, {"number": 11, "low": 1, "high": 10}, glue, Piece(first.world, "a"), Piece(World.flat(web, 0), "a"),
        )

    def test_nothing_is_changed(self):
        first, second = Piece(sample_world(), ["a", "b"]), other_piece()
        before = copy.deepcopy((first, second))
        glued = glue(first, second)
        glued.lights.clear()
        self.assertSame((first, second), before)
        self.assertSame(glue(first, second), glued)
        self.assertSame(Piece(sample_world(), listed(("a",))), Piece(sample_world(), tupled(["a"])))


if __name__ == "__main__":
    unittest.main()
