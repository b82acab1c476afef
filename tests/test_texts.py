"""Point 9 and the interface of texts.py."""
import unittest

from helpers import LIMIT, Case, sample_web, sample_world, small_worlds, web_of

from outshiners.faults import BadText, OutshinerError
from outshiners.texts import parse_web, parse_world, web_text, world_text
from outshiners.webs import Web
from outshiners.worlds import World

WEB = "web\nlamp a none\nlamp b 4\nlamp c none\nbond k a b none none\nbond m b c 0 3\nend"
WORLD = "world\nlight a 5\nlight b 1\nlight c 3\nend"
NUMBERS = {"0": 0, "7": 7, "-1": -1, "10": 10, str(LIMIT): LIMIT, str(-LIMIT): -LIMIT}
NO_NUMBERS = [
    "", "+1", "-0", "00", "01", "-01", "1.0", "1e3", "x", "None", "NONE", "-", "--1", "1_0", str(LIMIT + 1), str(-LIMIT - 1),
    "9" * 3000, "-" + "9" * 3000, "0" * 3000,
]


def number_by_words(word):
    """The number, None, or the word itself where it tells neither."""
    if word == "none":
        return None
    try:
        return int(word)
    except ValueError:
        return word


def web_faults_by_words(text):
    """The line that BadText must tell, found with nothing but the writer; None if the text is right."""
    lines = text.split("\n")
    for many in range(1, len(lines) + 1):
        if not begins_a_web(lines[:many]):
            return many
    return None if lines[-1] == "end" else len(lines) + 1


def begins_a_web(lines):
    """True if some web's text has these as its first lines."""
    if lines == ["web"]:
        return True
    lamps = []
    bonds = []
    for line in lines:
        word, *words = line.split(" ")
        if word == "lamp":
            lamps.append([words[0]] + [number_by_words(word) for word in words[1:]] if words else [])
        if word == "bond":
            bonds.append(words[:3] + [number_by_words(word) for word in words[3:]])
    try:
        return web_text(Web(lamps, bonds)).split("\n")[:len(lines)] == lines
    except (OutshinerError, ValueError, TypeError, IndexError):
        return False


def world_faults_by_words(web, text):
    """The same for the text of a world over the web."""
    lines = text.split("\n")
    wanted = world_text(World.flat(web, 0)).split("\n")
    for at, line in enumerate(lines):
        if at >= len(wanted):
            return at + 1
        number = line.split(" ")[-1]
        right = line == wanted[at]
        if not right and wanted[at].startswith("light"):
            told = number_by_words(number) if len(number) < 20 else None
            right = isinstance(told, int) and abs(told) <= LIMIT and line == wanted[at][:-1] + str(told)
        if not right:
            return at + 1
    return None if len(lines) == len(wanted) else len(lines) + 1


def spoilt(text):
    """The text with each line dropped, doubled, exchanged with each other one, cut, and with more in it."""
    lines = text.split("\n")
    for at, line in enumerate(lines):
        yield lines[:at] + lines[at + 1:]
        yield lines[:at] + [line] + lines[at:]
        yield lines[:at]
        yield lines[:at] + [""] + lines[at:]
        for other in range(at + 1, len(lines)):
            yield lines[:at] + [lines[other]] + lines[at + 1:other] + [line] + lines[other + 1:]
        words = line.split(" ")
        for place in range(len(words)):
            yield lines[:at] + [" ".join(words[:place] + words[place + 1:])] + lines[at + 1:]
            yield lines[:at] + [" ".join(words[:place] + words[place:place + 1] * 2 + words[place + 1:])] + lines[at + 1:]
            for word in ("", "a", "b", "z", "none", "0", "9", "-5", "07", "end", "Lamp", "abcdefghi", str(LIMIT + 1)):
                yield lines[:at] + [" ".join(words[:place] + [word] + words[place + 1:])] + lines[at + 1:]
        for sign in range(len(line)):
            yield lines[:at] + [line[:sign]] + lines[at + 1:]
        for more in (" ", " x"):
            yield lines[:at] + [line + more] + lines[at + 1:]
            yield lines[:at] + [more + line] + lines[at + 1:]
    yield lines + ["end"]
    yield lines + [""]
    yield lines + ["", ""]
    yield []


class Written(Case):
    def test_the_examples(self):
        self.assertCall(web_text, ["web"], [sample_web()], WEB)
        self.assertCall(world_text, ["world"], [sample_world()], WORLD)

    def test_the_order_in_which_rows_are_passed_does_not_matter(self):
        web = Web([("c", None), ("a", None), ("b", 4)], [("m", "c", "b", 0, 3), ("k", "b", "a", None, None)])
        self.assertSame(web_text(web), WEB)

    def test_the_least_and_the_greatest(self):
        self.assertSame(web_text(Web([("a", None)])), "web\nlamp a none\nend")
        web = Web([("a10", -LIMIT), ("a2", LIMIT)], [("z", "a2", "a10", -LIMIT, LIMIT)])
        wanted = f"web\nlamp a10 -{LIMIT}\nlamp a2 {LIMIT}\nbond z a10 a2 -{LIMIT} {LIMIT}\nend"
        self.assertSame(web_text(web), wanted)
        wanted = f"world\nlight a10 -{LIMIT}\nlight a2 {LIMIT}\nend"
        self.assertSame(world_text(World(web, {"a2": LIMIT, "a10": -LIMIT})), wanted)


class Read(Case):
    def test_the_examples(self):
        self.assertCall(parse_web, ["text"], [WEB], sample_web())
        self.assertCall(parse_world, ["web", "text"], [sample_web(), WORLD], sample_world())

    def test_what_is_written_is_read(self):
        for world in small_worlds():
            self.assertSame(parse_web(web_text(world.web)), world.web)
            self.assertSame(parse_world(world.web, world_text(world)), world)

    def test_the_greatest_web(self):
        web = web_of("abcdefghij", ["ab"] * 16)
        self.assertSame(parse_web(web_text(web)), web)
        world = World.flat(web, LIMIT)
        self.assertSame(parse_world(web, world_text(world)), world)

    def test_a_light_above_its_ceiling(self):
        found = parse_world(sample_web(), "world\nlight a 5\nlight b 99\nlight c 3\nend")
        self.assertSame(found.row, (5, 99, 3))

    def test_numbers(self):
        for word, number in NUMBERS.items():
            self.assertSame(parse_web(f"web\nlamp a {word}\nend").ceiling("a"), number)
            self.assertSame(parse_world(Web([("a", None)]), f"world\nlight a {word}\nend").row, (number,))
            web = parse_web(f"web\nlamp a none\nlamp b 1\nbond k a b {word} none\nbond m a b none {word}\nend")
            self.assertSame((web.span("k").low, web.span("m").high), (number, number))
        for word in NO_NUMBERS:
            self.assertFails(BadText, {"line": 2}, parse_web, f"web\nlamp a {word}\nend")
            self.assertFails(BadText, {"line": 2}, parse_world, Web([("a", None)]), f"world\nlight a {word}\nend")
            lamps = "web\nlamp a none\nlamp b 1\n"
            self.assertFails(BadText, {"line": 4}, parse_web, f"{lamps}bond k a b {word} none\nend")
            self.assertFails(BadText, {"line": 4}, parse_web, f"{lamps}bond k a b none {word}\nend")
        # A ceiling, a low and a high may be none, a light may not.
        self.assertFails(BadText, {"line": 2}, parse_world, Web([("a", None)]), "world\nlight a none\nend")

    def test_a_lamp_may_have_any_name(self):
        for name in ("none", "lamp", "end", "web", "a2345678", "zzzzzzzz"):
            web = Web([(name, None)])
            self.assertSame(parse_web(web_text(web)), web)
            self.assertSame(parse_world(web, f"world\nlight {name} 3\nend").row, (3,))


class Faults(Case):
    def fails(self, line, *lines):
        self.assertFails(BadText, {"line": line}, parse_web, "\n".join(lines))

    def test_empty_and_short_texts(self):
        self.fails(1, "")
        self.fails(1, "", "web")
        self.fails(1, "Web", "lamp a none", "end")
        self.fails(1, "web ", "lamp a none", "end")
        self.fails(2, "web")
        self.fails(2, "web", "end")
        self.fails(2, "web", "")
        self.fails(2, "web", "bond k a b none none", "end")
        self.fails(3, "web", "lamp a none")
        self.fails(3, "web", "lamp a none", "")
        self.fails(4, "web", "lamp a none", "end", "")
        self.fails(4, "web", "lamp a none", "end", "end")
        self.fails(4, "web", "lamp a none", "end", "lamp b none", "end")

    def test_the_faults_that_the_document_names(self):
        self.fails(3, "web", "lamp b none", "lamp a none", "end")
        self.fails(3, "web", "lamp a none", "lamp a 3", "end")
        self.fails(3, "web", "lamp a2 none", "lamp a10 none", "end")
        self.fails(4, "web", "lamp a none", "lamp b none", "bond k a c none none", "end")
        self.fails(4, "web", "lamp a none", "lamp b none", "bond k b a none none", "end")
        self.fails(4, "web", "lamp a none", "lamp b none", "bond k a a none none", "end")
        self.fails(4, "web", "lamp a none", "lamp b none", "bond k a b 2 1", "end")
        self.fails(3, "web", "lamp a none", "bond k a b none none", "lamp b none", "end")
        self.fails(5, "web", "lamp a none", "lamp b none", "bond k a b 1 1", "lamp c none", "end")
        self.fails(5, "web", "lamp a none", "lamp b none", "bond k a b 1 1", "bond k a b 1 1", "end")
        self.fails(5, "web", "lamp a none", "lamp b none", "bond l a b 1 1", "bond k a b 1 1", "end")

    def test_too_many_lamps_and_bonds(self):
        lamps = [f"lamp l{number} none" for number in range(10)]
        bonds = [f"bond k{number:02} l0 l1 none none" for number in range(17)]
        self.assertSame(len(parse_web("\n".join(["web", *lamps, *bonds[:16], "end"])).bonds), 16)
        self.fails(12, "web", *lamps, "lamp m none", "end")
        self.fails(12, "web", *lamps, "lamp m none", "lamp n none", *bonds, "end")
        self.fails(28, "web", *lamps, *bonds, "end")
        self.fails(28, "web", *lamps, *bonds[:16], "bond z l0 l1 none none", "bond z l0 l1 none none")
        self.fails(28, "web", *lamps, *bonds[:16])

    def test_names(self):
        for name in ("", "A", "1", "abcdefghi", "a_b", "*"):
            self.fails(2, "web", f"lamp {name} none", "end")
            self.fails(4, "web", "lamp a 1", "lamp b 1", f"bond {name} a b none none", "end")
            self.fails(4, "web", "lamp a 1", "lamp b 1", f"bond k a {name} none none", "end")

    def test_spoilt_webs(self):
        webs = [sample_web(), Web([("a", None)]), Web([("none", 0), ("z", None)]), web_of("abcd", ["ab", ("cd", 1, 4), "ab"])]
        many = 0
        for web in webs:
            for lines in spoilt(web_text(web)):
                text = "\n".join(lines)
                line = web_faults_by_words(text)
                if line is None:
                    self.assertSame(web_text(parse_web(text)), text)
                else:
                    many += 1
                    self.assertFails(BadText, {"line": line}, parse_web, text)
        self.assertGreater(many, 1000)

    def test_spoilt_worlds(self):
        for world in [sample_world(), World(Web([("a", None)]), {"a": -7}), World.flat(web_of("abcdefghij", []), 12)]:
            for lines in spoilt(world_text(world)):
                text = "\n".join(lines)
                line = world_faults_by_words(world.web, text)
                if line is None:
                    self.assertSame(world_text(parse_world(world.web, text)), text)
                else:
                    self.assertFails(BadText, {"line": line}, parse_world, world.web, text)

    def test_the_lamps_of_a_world_are_those_of_the_web(self):
        web = sample_web()
        for line, text in [
            (1, ""), (1, "web"), (2, "world"), (2, "world\nend"), (3, "world\nlight a 5\nlight c 3\nlight b 1\nend"),
            (5, "world\nlight a 5\nlight b 1\nlight c 3"), (5, WORLD.replace("end", "light d 1\nend")), (6, WORLD + "\n"),
            (6, WORLD + "\nend"), (2, WORLD.replace("light a 5\n", "")), (4, WORLD.replace("light c 3\n", "")),
        ]:
            self.assertFails(BadText, {"line": line}, parse_world, web, text)

    def test_the_longest_texts(self):
        for text in ("x" * 4000, "\n" * 4000, " " * 4000):
            self.assertFails(BadText, {"line": 1}, parse_web, text)
            self.assertFails(BadText, {"line": 1}, parse_world, sample_web(), text)
        self.assertFails(BadText, {"line": 8}, parse_web, WEB + "\n" * 3000)


if __name__ == "__main__":
    unittest.main()
