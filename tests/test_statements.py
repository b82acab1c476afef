"""Points 38 to 40 and the interface of statements.py."""
import random
import re
import unittest

from helpers import LIMIT, Case, count_statements, places_by_words, random_errand, with_statement

from outshiners.faults import BadErrand, BadText
from outshiners.statements import check_errand, errand_text, lamps_named, parse_errand

HUGE = LIMIT + 1
NAME = re.compile(r"[a-z][a-z0-9]{0,7}\Z")
JOB = (
    ("each", ("a", "c"), (("offer", "b", "*"),)),
    ("until", "b", 4, (("spread", 3), ("each", ("b",), (("until", "*", -LIMIT, ()), ("light", "*", "zz9"))))),
    ("light", "c", "a"),
)
JOB_TEXT = """each a c
  offer b from *
done
until b 4
  spread 3
  each b
    until * -1000000000000
    done
    light * from zz9
  done
done
light c from a"""


def errands(many=200, seed=111, **sizes):
    """Many right errands."""
    rng = random.Random(seed)
    return [random_errand(rng, **sizes) for _ in range(many)]


def is_right_by_words(row, in_each):
    """True if the statement breaks no rule of point 39 by its own parts."""
    def lamp(name):
        return bool(NAME.match(name)) or (in_each and name == "*")

    def light(value):
        return type(value) is int and abs(value) <= LIMIT

    shapes = {"light": 3, "offer": 3, "spread": 2, "until": 4, "each": 3}
    if not row or shapes.get(row[0]) != len(row):
        return False
    if row[0] in ("light", "offer"):
        return lamp(row[1]) and lamp(row[2]) and row[1] != row[2]
    if row[0] == "spread":
        return light(row[1])
    if row[0] == "until":
        return lamp(row[1]) and light(row[2])
    return 1 <= len(row[1]) <= 4 and len(set(row[1])) == len(row[1]) and all(NAME.match(name) for name in row[1])


def first_fault(body):
    """The place of the first statement that point 39 forbids; None if there is none."""
    seen = [0]

    def walk(rows, around, in_each):
        for at, row in enumerate(rows):
            place = around + (at,)
            seen[0] += 1
            if seen[0] > 16 or len(place) > 3 or not is_right_by_words(row, in_each):
                return place
            if row[0] in ("until", "each"):
                found = walk(row[-1], place, in_each or row[0] == "each")
                if found is not None:
                    return found
        return None

    return walk(body, (), False)


def built(lines):
    """The statements that these lines tell by their indents; None if they are no statements."""
    bodies = [[]]
    heads = []
    for line in lines:
        indent = "  " * len(heads)
        if heads and line == "  " * (len(heads) - 1) + "done":
            body = tuple(bodies.pop())
            bodies[-1].append(heads.pop() + (body,))
            continue
        if not line.startswith(indent):
            return None
        found = re.match(r"(light|offer) (\S+) from (\S+)\Z", line[len(indent):])
        if found:
            bodies[-1].append(found.groups())
            continue
        found = re.match(r"spread (-?[0-9]{1,14})\Z", line[len(indent):])
        if found:
            bodies[-1].append(("spread", int(found[1])))
            continue
        found = re.match(r"until (\S+) (-?[0-9]{1,14})\Z", line[len(indent):])
        if found:
            heads.append(("until", found[1], int(found[2])))
        elif line[len(indent):].startswith("each "):
            heads.append(("each", tuple(line[len(indent) + 5:].split(" "))))
        else:
            return None
        bodies.append([])
    return None if heads else tuple(bodies[0])


def is_text(lines):
    """True if the writer can return this text."""
    if lines == [""]:
        return True
    body = built(lines)
    return bool(body) and first_fault(body) is None and errand_text(body).split("\n") == lines


def completed(lines):
    """The lines with a `done` for each statement that is still open."""
    open_indents = []
    for line in lines:
        word = line.lstrip(" ")
        indent = line[:len(line) - len(word)]
        if re.match("(until|each) ", word):
            open_indents.append(indent)
        elif word == "done" and open_indents:
            open_indents.pop()
    return lines + [indent + "done" for indent in reversed(open_indents)]


def fault_line(text):
    """The line that BadText tells by points 9 and 40; None if the text is right."""
    lines = text.split("\n")
    for many in range(1, len(lines) + 1):
        if not is_text(completed(lines[:many])):
            return many
    return None if is_text(lines) else len(lines) + 1


class Checked(Case):
    def assertBad(self, place, statements):
        self.assertFails(BadErrand, {"place": place}, check_errand, statements)
        self.assertFails(BadErrand, {"place": place}, check_errand, list(statements))

    def test_right_errands(self):
        for body in errands():
            self.assertSame(check_errand(body), body)
            self.assertSame(check_errand(list(body)), body)
        for body in ((), JOB):
            self.assertSame(check_errand(body), body)
            self.assertSame(check_errand(statements=list(body)), body)
        self.assertSame(check_errand((("until", "a", 0, ()), ("each", ("a",), ()))), (("until", "a", 0, ()), ("each", ("a",), ())))

    def test_lists_stay(self):
        statements = [("spread", 1)]
        found = check_errand(statements)
        statements.append(("spread", 2))
        self.assertSame(found, (("spread", 1),))

    def test_shapes(self):
        for wrong in (
            (), ("",), ("word",), ("word", "a", "b"), ("light",), ("light", "a"), ("light", "a", "b", "c"), ("light", "a", "b", 1),
            ("offer", "a"), ("offer", "a", "b", "b"), ("spread",), ("spread", 1, 1), ("spread", 1, 2), ("until",), ("until", "a"),
            ("until", "a", 1), ("until", "a", 1, (), ()), ("until", "a", 1, (), 1), ("each",), ("each", ("a",)),
            ("each", ("a",), (), ()), ("each", ("a",), (), ("a",)), ("Light", "a", "b"), (" light", "a", "b"), ("done",),
            ("spread ", 1), ("each ", ("a",), ()),
        ):
            self.assertBad((0,), (wrong,))
            self.assertBad((1,), (("spread", 1), wrong, ("word",)))
            self.assertBad((0, 1), (("until", "a", 1, (("spread", 1), wrong)), ("word",)))
            self.assertBad((2, 0, 0), (("spread", 1), ("spread", 1), ("each", ("a",), (("each", ("b",), (wrong,)),))))

    def test_names(self):
        for bad in ("", "A", "9a", "abcdefghi", "a-b", "No Name", "**", "* "):
            for wrong in (
                ("light", bad, "b"), ("light", "b", bad), ("offer", bad, "b"), ("offer", "b", bad), ("until", bad, 1, ()),
                ("each", (bad,), ()), ("each", ("a", bad), ()),
            ):
                self.assertBad((0,), (wrong,))
                self.assertBad((0, 0), (("each", ("a",), (wrong,)),))
        longest = ("light", "abcdefgh", "a2345678")
        self.assertSame(check_errand((longest,)), (longest,))

    def test_the_star(self):
        for row in (("light", "*", "b"), ("light", "b", "*"), ("offer", "*", "b"), ("offer", "b", "*"), ("until", "*", 1, ())):
            self.assertBad((0,), (row,))
            self.assertBad((0, 0), (("until", "a", 1, (row,)),))
            self.assertBad((1,), (("each", ("a",), ()), row))
            for body in (
                (("each", ("a",), (row,)),), (("each", ("a",), (("until", "*", 1, (row,)),)),),
                (("until", "a", 1, (("each", ("a",), (row,)),)),), (("each", ("a",), (("each", ("b",), (row,)), row)),),
            ):
                self.assertSame(check_errand(body), body)
        for lamps in (("*",), ("a", "*"), ("*", "a")):
            self.assertBad((0,), (("each", lamps, ()),))
            self.assertBad((0, 0), (("each", ("a",), (("each", lamps, ()),)),))

    def test_unequal(self):
        for word in ("light", "offer"):
            self.assertBad((0,), ((word, "a", "a"),))
            self.assertBad((0, 1), (("each", ("a",), ((word, "*", "a"), (word, "*", "*"))),))
            body = (("each", ("a",), ((word, "*", "a"), (word, "a", "*"))),)
            self.assertSame(check_errand(body), body)

    def test_lights(self):
        for bad in (True, False, None, HUGE, -HUGE):
            self.assertBad((0,), (("spread", bad),))
            self.assertBad((0,), (("until", "a", bad, ()),))
            self.assertBad((1, 0), (("spread", 0), ("until", "a", 1, (("spread", bad),))))
        for light in (LIMIT, -LIMIT, 0):
            body = (("spread", light), ("until", "a", light, ()))
            self.assertSame(check_errand(body), body)

    def test_the_lamps_of_each(self):
        for lamps in ((), ("a", "a"), ("a", "b", "c", "a"), ("a", "b", "c", "d", "e"), ("a", "b", "c", "d", "d")):
            self.assertBad((0,), (("each", lamps, ()),))
        for lamps in (("a",), ("d", "c", "b", "a")):
            self.assertSame(check_errand((("each", lamps, ()),)), (("each", lamps, ()),))

    def test_16_and_17_statements(self):
        row = ("spread", 1)
        self.assertSame(check_errand((row,) * 16), (row,) * 16)
        self.assertBad((16,), (row,) * 17)
        self.assertBad((16,), (row,) * 16 + (("word",),) * 5)
        self.assertBad((15,), (row,) * 15 + (("word",),) * 5)
        deep = (("until", "a", 1, (row, ("each", ("a",), (row,) * 12))),)
        self.assertSame(check_errand(deep + (row,)), deep + (row,))
        self.assertBad((2,), deep + (row, row))
        deeper = (("until", "a", 1, (row, ("each", ("a",), (row,) * 14))),)
        self.assertBad((0, 1, 13), deeper)
        # The bodies of statements ahead count, also those of statements that are themselves the seventeenth.
        self.assertBad((1,), (("each", ("a",), (row,) * 15), ("until", "a", 1, (("word",),))))

    def test_depth_3_and_4(self):
        row = ("spread", 1)
        third = (("until", "a", 1, (("each", ("a",), (row, ("until", "a", 1, ()))),)),)
        self.assertSame(check_errand(third), third)
        fourth = (("until", "a", 1, (("each", ("a",), (row, ("until", "a", 1, (row, row)))),)),)
        self.assertBad((0, 0, 1, 0), fourth)
        fifth = (("each", ("a",), (("each", ("a",), (("each", ("a",), (("each", ("a",), (row,)),)),)),)),)
        self.assertBad((0, 0, 0, 0), fifth)
        self.assertBad((0, 0, 1), (("until", "a", 1, (("each", ("a",), (row, ("until", "a", None, (row,)))),)),))

    def test_reading_order(self):
        wrong = ("word",)
        self.assertBad((0,), (("until", "A", 1, (wrong,)), wrong))
        self.assertBad((0, 0), (("until", "a", 1, (wrong,)), wrong))
        self.assertBad((0, 0, 0), (("until", "a", 1, (("each", ("b",), (wrong, wrong)), wrong)), wrong))

    def test_spoilt_at_one_place(self):
        rng = random.Random(112)
        spoilt = 0
        for body in errands(150, seed=113):
            for place, row in places_by_words(body):
                others = [(), ("word",), row[:-1], row + (row[-1],), ("light", "*", "a"), ("spread", True), ("each", ("a", "*"), ())]
                others += [("until", "a", 3, (row, row)), ("each", ("b", "a"), (row,) * rng.randint(1, 9)), None]
                if len(row) > 1 and isinstance(row[1], str):
                    others += [row[:1] + (name,) + row[2:] for name in ("*", "", "A", "d")]
                for other in others:
                    wrong = with_statement(body, place, other)
                    wanted = first_fault(wrong)
                    if wanted is None:
                        self.assertSame(check_errand(wrong), wrong)
                    else:
                        spoilt += 1
                        self.assertBad(wanted, wrong)
        self.assertGreater(spoilt, 1000)


class Texts(Case):
    def test_the_example(self):
        self.assertSame(errand_text(JOB), JOB_TEXT)
        self.assertSame(parse_errand(JOB_TEXT), JOB)
        self.assertSame(parse_errand(text=JOB_TEXT), JOB)
        self.assertSame(errand_text(statements=JOB), JOB_TEXT)

    def test_there_and_back(self):
        for body in errands(300):
            text = errand_text(body)
            self.assertIs(type(text), str)
            self.assertSame(parse_errand(text), body)
            self.assertIs(fault_line(text), None)

    def test_the_empty_text(self):
        self.assertSame(errand_text(()), "")
        self.assertSame(parse_errand(""), ())
        for text in ("\n", "\n\n", "\nspread 1", "\ndone", "\n\nspread 1"):
            self.assertFails(BadText, {"line": 2}, parse_errand, text)

    def test_faulty_lines(self):
        for text, line in [
            (" ", 1), ("done", 1), ("word", 1), ("spread", 1), ("spread 1 2", 1), ("spread 01", 1), ("spread -0", 1), ("spread +1", 1),
            ("spread 1000000000001", 1), ("spread " + "9" * 3000, 1), ("spread none", 1), ("spread 1 ", 1), (" spread 1", 1),
            ("  spread 1", 1), ("spread  1", 1), ("Spread 1", 1), ("light a from a", 1), ("light a to b", 1), ("light a from", 1),
            ("light a b", 1), ("light a from b c", 1), ("light * from a", 1), ("light A from b", 1), ("offer a from *", 1),
            ("until a 1", 2), ("until a", 1), ("until a b", 1), ("until * 1", 1), ("until a 1 2", 1), ("each", 1), ("each ", 1),
            ("each a", 2), ("each a a", 1), ("each a b c d e", 1), ("each *", 1), ("each a  b", 1), ("each a b ", 1),
            ("spread 1\n", 2), ("spread 1\n\nspread 1", 2), ("spread 1\ndone", 2), ("spread 1\n  spread 1", 2),
            ("until a 1\n", 2), ("until a 1\nspread 1", 2), ("until a 1\ndone\ndone", 3), ("until a 1\n  done", 2),
            ("until a 1\n done", 2), ("until a 1\ndone ", 2), ("until a 1\ndone\n", 3), ("until a 1\n    spread 1", 2),
            ("until a 1\n  spread 1", 3), ("until a 1\n  spread 1\n  done", 3), ("until a 1\n  each b\n  done", 4),
            ("until a 1\n  each b\ndone", 3), ("until a 1\n  light * from b\ndone", 2), ("each a\n  light * from *\ndone", 2),
            ("each a\n  each *\n  done\ndone", 2), ("each a\n  until * 1\n  done\n", 4), ("each a\nuntil a 1", 2),
            ("until a 1\n  until a 1\n    until a 1\n      spread 1\n    done\n  done\ndone", 4),
            ("until a 1\n  until a 1\n    until a 1\n      done", 4), ("until a 1\n  until a 1\n    until a 1", 4),
            ("\n".join(["spread 1"] * 17), 17), ("\n".join(["spread 1"] * 16 + ["done"]), 17),
            ("\n".join(["spread 1"] * 15 + ["until a 1", "  spread 1", "done"]), 17), ("\n".join(["spread 1"] * 15 + ["each b"]), 17),
        ]:
            self.assertFails(BadText, {"line": line}, parse_errand, text)
            self.assertSame(fault_line(text), line)

    def test_16_statements(self):
        text = "\n".join(["spread 1"] * 15 + ["until a 1", "done"])
        self.assertSame(len(parse_errand(text)), 16)

    def test_every_line_spoilt(self):
        wrong = 0
        rng = random.Random(114)
        for body in errands(120, seed=115) + [JOB]:
            lines = errand_text(body).split("\n")
            if len(lines) > 14:
                continue
            texts = []
            for at, line in enumerate(lines):
                other = rng.randrange(len(lines))
                swapped = list(lines)
                swapped[at], swapped[other] = swapped[other], swapped[at]
                changes = ["  " + line, " " + line, line[2:], line[1:], line[:-1], line + " ", "", "done", "  done", line + " b"]
                changes += [line.replace("a", "*"), line.replace(" ", "  ", 1), line.replace("from", "to"), line.upper()]
                texts += [lines[:at] + [change] + lines[at + 1:] for change in changes]
                texts += [lines[:at] + lines[at + 1:], lines[:at + 1] + lines[at:], swapped, lines[:at], lines[:at] + [""] + lines[at:]]
                texts += [lines[:at] + lines[at + 1:] + [line]]
            for spoilt in texts:
                text = "\n".join(spoilt)
                line = fault_line(text)
                if line is None:
                    self.assertSame(errand_text(parse_errand(text)), text)
                else:
                    wrong += 1
                    self.assertFails(BadText, {"line": line}, parse_errand, text)
        self.assertGreater(wrong, 2000)

    def test_the_longest_text(self):
        text = "spread 1\n" + " " * 3990
        self.assertFails(BadText, {"line": 2}, parse_errand, text)
        self.assertFails(BadText, {"line": 2}, parse_errand, "\n" * 4000)
        self.assertFails(BadText, {"line": 1}, parse_errand, "each " + "a " * 1990)


class Named(Case):
    def test_lamps_named(self):
        self.assertSame(lamps_named(JOB), ["a", "b", "c", "zz9"])
        self.assertSame(lamps_named(statements=()), [])
        self.assertSame(lamps_named((("spread", 1), ("until", "b", 1, ()))), ["b"])
        self.assertSame(lamps_named((("light", "a2", "a10"),)), ["a10", "a2"])
        self.assertFreshList(lambda: lamps_named(JOB))

    def test_all_names(self):
        for body in errands():
            words = set(re.findall(r"[a-d]\b", re.sub(r"light|offer|spread|until|each|done|from", "", errand_text(body))))
            self.assertSame(lamps_named(body), sorted(words))
            self.assertLessEqual(count_statements(body), 16)


if __name__ == "__main__":
    unittest.main()
