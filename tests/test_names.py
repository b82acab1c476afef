"""Point 2 and the interface of names.py."""
import unittest

from helpers import Case

from outshiners.faults import BadName, Doubled
from outshiners.names import check_name, fresh_name, is_name, ordered

NAMES = ["a", "z", "a0", "z9", "lamp", "abcdefgh", "a1234567", "x"]
NO_NAMES = [
    "", " ", "a ", " a", "0", "9a", "A", "aB", "a_b", "a-b", "a.b", "*", "abcdefghi", "a\n", "\na",
    "a`", "a{", "a/", "a:", "`", "{", "a" * 1000,
]


class Names(Case):
    def test_names(self):
        for text in NAMES:
            self.assertSame(is_name(text), True)
            self.assertSame(is_name(text=text), True)
            self.assertSame(check_name(text), text)
            self.assertSame(check_name(text=text), text)

    def test_no_names(self):
        for text in NO_NAMES:
            self.assertSame(is_name(text), False)
            self.assertFails(BadName, {"name": text}, check_name, text)

    def test_every_sign(self):
        for number in range(32, 127):
            sign = chr(number)
            self.assertSame(is_name(sign), sign in "abcdefghijklmnopqrstuvwxyz")
            self.assertSame(is_name("a" + sign), sign in "abcdefghijklmnopqrstuvwxyz0123456789")

    def test_ordered(self):
        self.assertCall(ordered, ["names"], [["b", "a2", "a10"]], ["a10", "a2", "b"])
        self.assertSame(ordered([]), [])
        names = ["b", "a"]
        found = ordered(names)
        found.append("z")
        self.assertSame(names, ["b", "a"])

    def test_ordered_fails(self):
        self.assertFails(Doubled, {"name": "b"}, ordered, ["a", "b", "b", "a"])
        self.assertFails(Doubled, {"name": "a"}, ordered, ["a", "b", "a", "b"])
        self.assertFails(BadName, {"name": "B"}, ordered, ["a", "a", "B", ""])
        self.assertFails(BadName, {"name": ""}, ordered, ["", "a", "a", "B"])

    def test_fresh_name(self):
        self.assertSame(fresh_name([]), "x0")
        self.assertSame(fresh_name(names=("x0", "x2", "x1")), "x3")
        self.assertSame(fresh_name(["x1", "x 0", ""]), "x0")
        self.assertSame(fresh_name(["ab0", "ab00"], prefix="ab"), "ab1")
        self.assertSame(fresh_name([f"abcd{n}" for n in range(1000)], prefix="abcd"), "abcd1000")
        self.assertSame(fresh_name(["x00", "X0"]), "x0")

    def test_fresh_name_fails(self):
        for prefix in ("", "A", "0", "abcde", "a b", "abcdefghi"):
            self.assertFails(BadName, {"name": prefix}, fresh_name, ["x0"], prefix=prefix)
        with self.assertRaises(TypeError):
            fresh_name([], "x")


if __name__ == "__main__":
    unittest.main()
