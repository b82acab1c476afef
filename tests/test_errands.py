"""Points 38, 39 and 41 and the interface of errands.py."""
import copy
import itertools
import random
import unittest

from helpers import (
    LIMIT, Case, count_statements, histories_of, passes, path_world, random_errand, random_world, sample_web,
    sample_world, small_worlds, steps_by_words, web_of,
)

from outshiners.deeds import replay
from outshiners.errands import Errand, errand_of, errands_part, reached
from outshiners.faults import BadErrand, BadNumber, BadText, Broken, Doubled, Halted, OutOfRange, Unknown
from outshiners.statements import errand_text
from outshiners.webs import Web
from outshiners.worlds import World

HUGE = LIMIT + 1
NUMBERS = (True, False, HUGE, -HUGE)
JOB = "each a c\n  offer b from *\ndone\nuntil b 4\n  spread 3\ndone"


class Stop(Exception):
    """An errand of the plain reading is halted."""


def cause_by_words(world, taker, giver):
    """The cause for which no bond brings the taker the light of the giver, or the first bond that does."""
    lights = world.lights
    rows = [row for row in world.web.bond_rows if set(row[1:3]) == {taker, giver}]
    if not rows:
        return "apart", None
    if lights[giver] <= lights[taker]:
        return "dim", None
    rows = [row for row in rows if passes(row[3], row[4], lights[giver])]
    if not rows:
        return "shut", None
    ceiling = world.web.ceiling(taker)
    if ceiling is not None and lights[giver] > ceiling:
        return "ceiling", None
    return None, rows[0][0]


def outcome_by_words(body, world):
    """The outcome by the words of point 41."""
    now = [world]
    history = []
    begun = [0]

    def do(bond):
        now[0] = dict(steps_by_words(now[0]))[bond]
        history.append(bond)

    def walk(rows, around, current):
        for at, row in enumerate(rows):
            begin(row, around + (at,), current)

    def begin(row, place, current):
        begun[0] += 1
        if begun[0] > 300:
            raise Stop(place, "long")
        if row[0] in ("light", "offer"):
            taker, giver = [current if name == "*" else name for name in row[1:]]
            why, bond = cause_by_words(now[0], taker, giver)
            if bond is not None:
                do(bond)
            elif row[0] == "light":
                raise Stop(place, why)
        elif row[0] == "spread":
            while True:
                able = []
                for bond, after in steps_by_words(now[0]):
                    taken = [light for lamp, light in after if light != now[0].light(lamp)]
                    able += [bond] if taken == [row[1]] else []
                if not able:
                    break
                do(min(able))
        elif row[0] == "until":
            lamp = current if row[1] == "*" else row[1]
            while now[0].light(lamp) < row[2]:
                many = len(history)
                walk(row[3], place, current)
                if len(history) == many:
                    raise Stop(place, "idle")
        else:
            for lamp in row[1]:
                walk(row[2], place, lamp)

    try:
        walk(body, (), None)
    except Stop as stop:
        return ("halted", now[0], history) + stop.args
    return ("done", now[0], history)


def jobs(many=300, seed=121, **sizes):
    """Many pairs of a world and the statements of an errand over its lamps."""
    rng = random.Random(seed)
    found = []
    for _ in range(many):
        world = random_world(rng, 4, 8)
        found.append((world, random_errand(rng, world.web.lamps, **sizes)))
    return found


class Made(Case):
    def test_properties(self):
        errand = Errand.parse(JOB)
        body = (("each", ("a", "c"), (("offer", "b", "*"),)), ("until", "b", 4, (("spread", 3),)))
        self.assertSame(errand.statements, body)
        self.assertSame(errand.text, JOB)
        self.assertSame(errand.size, 4)
        self.assertSame((Errand().statements, Errand().text, Errand().size), ((), "", 0))
        for _, statements in jobs(100):
            errand = Errand(statements)
            self.assertSame(errand.statements, statements)
            self.assertSame(errand.text, errand_text(statements))
            self.assertSame(errand.size, count_statements(statements))
            self.assertSame(Errand.parse(errand.text), errand)

    def test_calls(self):
        body = (("spread", 3), ("light", "a", "b"))
        for statements in (body, list(body)):
            self.assertSame(Errand(statements), Errand(statements=statements))
            self.assertSame(Errand(statements).statements, body)
        self.assertSame(Errand(()), Errand())
        self.assertSame(Errand([]), Errand())
        self.assertSame(Errand.parse(text="spread 3"), Errand([("spread", 3)]))
        self.assertSame(Errand().parse("spread 3"), Errand([("spread", 3)]))
        self.assertSame(Errand.parse(""), Errand())

    def test_it_keeps_what_it_was_given(self):
        statements = [("spread", 3)]
        errand = Errand(statements)
        statements.append(("spread", 4))
        self.assertSame(errand.statements, (("spread", 3),))

    def test_wrong(self):
        row = ("spread", 1)
        self.assertFails(BadErrand, {"place": (0,)}, Errand, [("light", "a", "a")])
        self.assertFails(BadErrand, {"place": (1, 0)}, Errand, statements=(row, ("until", "a", 1, (("spread", None),))))
        self.assertFails(BadErrand, {"place": (16,)}, Errand, [row] * 17)
        for text, line in [("spread 01", 1), ("until a 1", 2), ("\n", 2), ("spread 1\n", 2), ("each a\n  spread\ndone", 2)]:
            self.assertFails(BadText, {"line": line}, Errand.parse, text)

    def test_add(self):
        first, second = Errand([("spread", 1)]), Errand([("each", ("a",), (("light", "*", "b"),))])
        self.assertSame(first + second, Errand(first.statements + second.statements))
        self.assertSame(second + first, Errand(second.statements + first.statements))
        self.assertSame(first + Errand(), first)
        self.assertSame(Errand() + first, first)
        self.assertSame((first.size, second.size), (1, 2))
        many = Errand([("spread", 1)] * 14)
        self.assertSame((many + second).size, 16)
        self.assertFails(BadErrand, {"place": (15, 0)}, lambda: many + first + second)
        self.assertFails(BadErrand, {"place": (16,)}, lambda: many + many)
        deep = Errand([("until", "a", 1, (("spread", 1),) * 14)])
        self.assertFails(BadErrand, {"place": (2, 13)}, lambda: first + first + deep)

    def test_iterate(self):
        errand = Errand.parse(JOB)
        self.assertSame(list(errand), list(errand.statements))
        self.assertSame([(one[0], two[0]) for one in errand for two in errand], [
            ("each", "each"), ("each", "until"), ("until", "each"), ("until", "until"),
        ])
        self.assertSame(list(Errand()), [])

    def test_equal(self):
        errand = Errand.parse(JOB)
        self.assertSame(errand == Errand(list(errand.statements)), True)
        for other in (Errand(), Errand(errand.statements[:1]), Errand(errand.statements[::-1]), errand.statements, JOB, 1, sample_world()):
            self.assertSame(errand == other, False)
            self.assertSame(other == errand, False)


class Run(Case):
    def test_the_example(self):
        errand = Errand.parse(JOB)
        wanted = ("halted", World.of_row(sample_web(), (5, 3, 3)), ["m"], (1,), "idle")
        self.assertCall(errand, ["world"], [sample_world()], wanted)
        self.assertFreshList(lambda: errand(sample_world())[2])

    def test_a_plain_reading(self):
        words = {}
        for world, statements in jobs(800):
            found = Errand(statements)(world)
            self.assertSame(found, outcome_by_words(statements, world))
            words.setdefault(found[-1] if found[0] == "halted" else "done", []).append(found)
            self.assertSame(replay(world, found[2]), found[1])
            self.assertSame(Errand(statements)(world=world), found)
        self.assertEqual(set(words), {"done", "apart", "dim", "shut", "ceiling", "idle"})

    def test_a_plain_reading_of_long_errands(self):
        rng = random.Random(122)
        longest = 0
        for _ in range(200):
            world = random_world(rng, 4, 12)
            lamps = tuple(world.web.lamps)
            rows = [("spread", rng.randint(0, 4)), ("until", "*", rng.randint(0, 2), (("spread", 1),))]
            rows += [("offer", "*", rng.choice(lamps)) for _ in range(3)]
            body = (("each", lamps, (("each", lamps[::-1], tuple(rng.sample(rows[:1] + rows[2:], 3))), rows[1])),)
            found = Errand(body)(world)
            self.assertSame(found, outcome_by_words(body, world))
            longest = max(longest, len(found[2]))
        self.assertGreaterEqual(longest, 3)

    def test_causes(self):
        web = Web([("a", None), ("b", 4), ("c", None), ("d", 9)], [
            ("k", "a", "b", 5, 5), ("l", "a", "b", None, 3), ("m", "c", "d", 0, 3), ("n", "c", "d", 8, 9),
        ])
        for row, taker, giver, cause, bond in [
            ((5, 1, 0, 0), "a", "c", "apart", None), ((5, 1, 0, 0), "a", "b", "dim", None), ((5, 5, 0, 0), "b", "a", "dim", None),
            ((4, 1, 0, 0), "b", "a", "shut", None), ((5, 1, 0, 0), "b", "a", "ceiling", None), ((3, 1, 0, 0), "b", "a", None, "l"),
            ((0, 0, 0, 3), "c", "d", None, "m"), ((0, 0, 0, 8), "c", "d", None, "n"), ((0, 0, 0, 10), "c", "d", "shut", None),
            ((0, 0, 4, 5), "d", "c", "dim", None), ((0, 0, 9, 5), "d", "c", None, "n"), ((0, 0, 5, 4), "d", "c", "shut", None),
        ]:
            world = World.of_row(web, row)
            for word in ("light", "offer"):
                found = Errand([("spread", LIMIT), (word, taker, giver)])(world)
                if cause is None:
                    self.assertSame(found, ("done", replay(world, [bond]), [bond]))
                elif word == "light":
                    self.assertSame(found, ("halted", world, [], (1,), cause))
                else:
                    self.assertSame(found, ("done", world, []))

    def test_one_lamp_is_apart_from_itself(self):
        world = sample_world()
        for row in (("light", "*", "a"), ("light", "a", "*")):
            self.assertSame(Errand([("each", ("a",), (row,))])(world), ("halted", world, [], (0, 0), "apart"))
        self.assertSame(Errand([("each", ("a",), (("offer", "*", "a"),))])(world), ("done", world, []))
        body = (("each", ("c", "b"), (("light", "b", "*"),)),)
        self.assertSame(Errand(body)(world), ("halted", replay(world, ["m"]), ["m"], (0, 0), "apart"))

    def test_the_innermost_each(self):
        world = World.of_row(web_of("abcd", ["ab", "bc", "cd"]), (5, 0, 0, 0))
        body = (("each", ("c",), (("each", ("b",), (("light", "*", "a"),)), ("light", "*", "b"), ("until", "*", 5, ()))),)
        self.assertSame(Errand(body)(world), ("done", replay(world, ["k00", "k01"]), ["k00", "k01"]))

    def test_spread(self):
        world = World.of_row(web_of("abcde", ["de", "cd", "bc", "ab", "ab"]), (5, 0, 0, 0, 3))
        self.assertSame(Errand([("spread", 5)])(world)[2], ["k03", "k02", "k01", "k00"])
        self.assertSame(Errand([("spread", 3)])(world)[2], ["k00", "k01", "k02"])
        self.assertSame(Errand([("spread", 0)])(world), ("done", world, []))
        self.assertSame(Errand([("spread", 4), ("spread", LIMIT), ("spread", -LIMIT)])(world), ("done", world, []))

    def test_until(self):
        world = World.of_row(web_of("abc", ["ab", "bc"]), (5, 3, 0))
        turn = (("offer", "c", "b"), ("offer", "b", "a"))
        self.assertSame(Errand([("until", "c", 5, turn)])(world), ("done", World.flat(world.web, 5), ["k01", "k00", "k01"]))
        self.assertSame(Errand([("until", "c", 6, turn)])(world), ("halted", World.flat(world.web, 5), ["k01", "k00", "k01"], (0,), "idle"))
        self.assertSame(Errand([("until", "c", 0, (("light", "a", "c"),))])(world), ("done", world, []))
        self.assertSame(Errand([("spread", 1), ("until", "c", 1, ())])(world), ("halted", world, [], (1,), "idle"))
        inner = ("until", "a", 0, turn)
        self.assertSame(Errand([("until", "c", 5, (inner,))])(world), ("halted", world, [], (0,), "idle"))
        inner = ("until", "b", 5, turn)
        self.assertSame(Errand([("until", "c", 4, (inner, ("offer", "c", "b")))])(world)[0], "done")

    def test_what_was_done_stays_done(self):
        world = World.of_row(web_of("abc", ["ab", "bc"]), (5, 3, 0))
        body = (("light", "c", "b"), ("each", ("b", "a"), (("light", "*", "a"),)))
        after = replay(world, ["k01", "k00"])
        self.assertSame(Errand(body)(world), ("halted", after, ["k01", "k00"], (1, 0), "apart"))

    def test_300_and_301_statements(self):
        # Seven turns of 42 statements bring the light of h to a, one of them for the until: 295 begin.
        wave = World.of_row(web_of("abcdefghi", ["ab", "bc", "cd", "de", "ef", "fg", "gh", "hi"]), (0,) * 7 + (9, 9))
        idle = ("spread", 99)
        first = ("each", ("a", "b", "c", "d"), tuple(("offer", "*", giver) for giver in "bcde") + (idle, idle))
        second = ("each", ("e", "f", "g", "h"), tuple(("offer", "*", giver) for giver in "fghi"))
        body = (("until", "a", 9, (first, second)),)
        end, history = World.flat(wave.web, 9), [f"k0{number}" for number in (6, 5, 4, 3, 2, 1, 0)]
        self.assertSame(Errand(body)(wave), ("done", end, history))
        lasts = [
            ("light", "a", "c"), ("light", "b", "a"), ("offer", "a", "b"), idle, ("until", "a", 10, ()), ("until", "a", 1, ()),
            ("each", ("a",), ()),
        ]
        for lamps in (("a",), ("a", "b", "c"), ("d", "c", "b", "a")):
            more = body + (("each", lamps, (idle,)),)
            # 295 + 1 + 4 = 300 are run.
            self.assertSame(Errand(more)(wave), ("done", end, history))
            for last in lasts:
                found = Errand(more + (last,))(wave)
                self.assertSame(found, outcome_by_words(more + (last,), wave))
                if len(lamps) == 4:
                    # The 301st statement is halted before anything else is checked there.
                    self.assertSame(found, ("halted", end, history, (2,), "long"))
                else:
                    why = {"light": "apart" if last[2] == "c" else "dim"} if last[0] == "light" else {"until": "idle"}
                    halts = last[0] == "light" or last[:3] == ("until", "a", 10)
                    wanted = ("halted", end, history, (2,), why[last[0]]) if halts else ("done", end, history)
                    self.assertSame(found, wanted)

    def test_long_within_a_body(self):
        wave = World.of_row(web_of("abcdefghi", ["ab", "bc", "cd", "de", "ef", "fg", "gh", "hi"]), (0,) * 8 + (9,))
        idle = ("spread", 99)
        first = ("each", ("a", "b", "c", "d"), tuple(("offer", "*", giver) for giver in "bcde") + (idle, idle))
        second = ("each", ("e", "f", "g", "h"), tuple(("offer", "*", giver) for giver in "fghi"))
        # The first seven of eight turns begin 294 statements, and the eighth one is halted at its sixth.
        found = Errand((("until", "a", 9, (first, second)),))(wave)
        self.assertSame(found[3:], ((0, 0, 4), "long"))
        self.assertSame(found[1].row, (9,) * 9)
        self.assertSame(found, outcome_by_words((("until", "a", 9, (first, second)),), wave))

    def test_unknown(self):
        world = sample_world()
        for bad in ("z", "k", "a1"):
            for body in (
                (("light", "a", bad), ("light", "zz", "yy")), (("light", bad, "zz"),), (("offer", "a", "b"), ("offer", bad, "zz")),
                (("until", bad, 1, (("light", "zz", "b"),)),), (("until", "a", 1, (("light", bad, "zz"),)), ("until", "zz", 1, ())),
                (("each", ("a", bad, "zz"), (("light", "yy", "b"),)),), (("each", ("a",), (("light", "*", bad),)), ("offer", "zz", "a")),
                (("until", "a", 0, (("light", bad, "b"),)),), (("light", "a", "b"), ("light", "a", bad)),
            ):
                self.assertFails(Unknown, {"name": bad}, Errand(body), world)
                self.assertFails(Unknown, {"name": bad}, reached, Errand(body), world)
        self.assertSame(world, sample_world())

    def test_nothing_is_changed(self):
        world, errand = sample_world(), Errand.parse(JOB)
        before = copy.deepcopy((world, errand))
        errand(world)
        errand + errand
        self.assertSame((world, errand), before)


class Reached(Case):
    def test_reached(self):
        for world, statements in jobs(200, seed=123):
            outcome = Errand(statements)(world)
            if outcome[0] == "done":
                self.assertSame(reached(Errand(statements), world), outcome[1])
            else:
                wanted = {"place": outcome[3], "cause": outcome[4]}
                self.assertFails(Halted, wanted, reached, Errand(statements), world)

    def test_calls(self):
        world = sample_world()
        after = replay(world, ["m"])
        self.assertCall(reached, ["errand", "world"], [Errand.parse("light b from c"), world], after)
        self.assertCall(reached, ["errand", "world"], [Errand(), world], world)
        self.assertFails(Halted, {"place": (1,), "cause": "idle"}, reached, world=world, errand=Errand.parse(JOB))


class Of(Case):
    def test_it_reaches_the_same_world(self):
        for world in small_worlds(80, seed=124, most_bonds=6):
            for history in histories_of(world)[:20]:
                errand = errand_of(world, list(history))
                outcome = errand(world)
                self.assertSame(outcome[:2], ("done", replay(world, history)))
                self.assertSame((len(outcome[2]), errand.size), (len(history), len(history)))
                now = world
                for bond, row in zip(history, errand.statements):
                    giver, taker = sorted(world.web.ends(bond), key=now.light, reverse=True)
                    self.assertSame(row, ("light", taker, giver))
                    now = replay(now, [bond])

    def test_calls(self):
        world = path_world()
        wanted = Errand([("light", "b", "a"), ("light", "c", "b"), ("light", "d", "c")])
        self.assertCall(errand_of, ["world", "history"], [world, ["p", "q", "r"]], wanted)
        self.assertCall(errand_of, ["world", "history"], [world, []], Errand())

    def test_16_and_17_deeds(self):
        web = web_of("abcdefg", ["ab", "bc", "cd", "de", "ef", "fg"])
        world = World.of_row(web, (9, 8, 7, 6, 5, 4, 3))
        history = []
        for first in (5, 4, 3, 2, 1, 0):
            history += [f"k0{number}" for number in range(first, 6)]
        self.assertSame(errand_of(world, history[:16]).size, 16)
        self.assertSame(reached(errand_of(world, history[:16]), world), replay(world, history[:16]))
        for many in (17, 21):
            self.assertFails(BadErrand, {"place": (16,)}, errand_of, world, history[:many])
        # BadErrand goes ahead of Broken, and Unknown ahead of both.
        self.assertFails(BadErrand, {"place": (16,)}, errand_of, world, ["k00"] * 17)
        self.assertFails(Broken, {"place": 1, "bond": "k00", "cause": "alike"}, errand_of, world, ["k00"] * 16)
        for bad in ("z", "a", "", "No Name"):
            self.assertFails(Unknown, {"name": bad}, errand_of, world, ["k00"] * 17 + [bad, "zz"])
            self.assertFails(Unknown, {"name": bad}, errand_of, world, ["k00", "k00", bad])


class Part(Case):
    def test_all_worlds(self):
        found_some = 0
        rng = random.Random(125)
        for _ in range(120):
            world = random_world(rng, 3, 5)
            lights = rng.sample(range(5), rng.randint(1, 3))
            first, second = [Errand(random_errand(rng, world.web.lamps, most=2)) for _ in range(2)]
            if rng.random() < 0.5:
                second = first + Errand([("spread", rng.choice(lights))])
            wanted = None
            for row in itertools.product(sorted(lights), repeat=len(world.web.lamps)):
                start = World.of_row(world.web, row)
                one, two = outcome_by_words(first.statements, start), outcome_by_words(second.statements, start)
                if one[:2] != two[:2]:
                    wanted = start
                    break
            self.assertSame(errands_part(world.web, lights, first, second), wanted)
            found_some += wanted is not None
        self.assertGreater(found_some, 30)

    def test_calls(self):
        web = sample_web()
        first, second = Errand.parse("light b from c"), Errand.parse("offer b from c")
        names = ["web", "lights", "first", "second"]
        self.assertCall(errands_part, names, [web, [2, 1], first, second], World.of_row(web, (1, 1, 1)))
        self.assertCall(errands_part, names, [web, [2, 1, 4], second, Errand()], World.of_row(web, (1, 1, 2)))
        self.assertCall(errands_part, names, [web, [2, 1, 4], first, first], None)
        self.assertCall(errands_part, names, [web, [7], first, second], World.of_row(web, (7, 7, 7)))
        self.assertCall(errands_part, names, [web, [7], second, Errand()], None)

    def test_only_the_word_and_the_world_count(self):
        web = web_of("ab", ["ab", "ab"])
        # The places and the causes differ, but not the first word and the world.
        first, second = Errand.parse("light b from a"), Errand.parse("spread 7\noffer a from b\nuntil b 9\ndone")
        self.assertSame([first(World.flat(web, 1))[3:], second(World.flat(web, 1))[3:]], [((0,), "dim"), ((2,), "idle")])
        self.assertIs(errands_part(web, [1], first, second), None)
        self.assertSame(errands_part(web, [1, 2], first, second), World.of_row(web, (1, 2)))

    def test_wrong(self):
        web = sample_web()
        job = Errand.parse("light b from c")
        odd, odder = Errand.parse("until z 1\ndone\nlight y from x"), Errand.parse("light b from w")
        five = web_of("abcde", ["bc"])
        for bad in NUMBERS:
            self.assertFails(BadNumber, {"number": bad}, errands_part, five, [1, bad, 1, HUGE], odd, odder)
        self.assertFails(Doubled, {"name": 3}, errands_part, five, [1, 2, 3, 3, 1], odd, odder)
        self.assertFails(Unknown, {"name": "z"}, errands_part, five, [1, 2, 3, 4], odd, odder)
        self.assertFails(Unknown, {"name": "w"}, errands_part, five, [], job, odder)
        self.assertFails(OutOfRange, {"number": 5, "low": 1, "high": 4}, errands_part, five, [], job, job)
        self.assertFails(OutOfRange, {"number": 5, "low": 1, "high": 4}, errands_part, five, [1, 2, 3, 4], job, job)
        self.assertFails(OutOfRange, {"number": 0, "low": 1, "high": 3}, errands_part, web, [], job, job)
        self.assertFails(OutOfRange, {"number": 4, "low": 1, "high": 3}, errands_part, web, [1, 2, 3, 4], job, job)
        self.assertFails(OutOfRange, {"number": 4, "low": 1, "high": 3}, errands_part, second=job, first=job, lights=(4, 3, 2, 1), web=web)

    def test_the_smallest_and_the_largest(self):
        one = Web([("a", None)])
        self.assertIs(errands_part(one, [1, 2, 3], Errand(), Errand.parse("spread 1")), None)
        self.assertSame(errands_part(one, [3, 1, 2], Errand(), Errand.parse("until a 3\ndone")), World.of_row(one, (1,)))
        web = web_of("abcd", ["ab", "ac", "ad", "bc", "bd", "cd"] * 2 + ["ab", "cd", "bc", "ad"])
        lamps = ("a", "b", "c", "d")
        long = Errand([("each", lamps, (("each", lamps, tuple(("offer", "*", "a") for _ in range(14))),))])
        self.assertIs(errands_part(web, [7, 8, 9], long, long), None)
        wanted = World.of_row(web, (7, 7, 7, 8))
        self.assertSame(errands_part(web, [7, 8, 9], long, Errand.parse("spread 8\nspread 9")), wanted)


if __name__ == "__main__":
    unittest.main()
