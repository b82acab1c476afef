"""Points 43 to 45 and the interface of book.py."""
import copy
import random
import unittest

from helpers import (
    LIMIT, Case, path_world, random_errand, random_wish, random_world, sample_web, sample_world, steps_by_words, web_of,
)

from outshiners.book import Book, audit, first_unlike, rebuilt
from outshiners.claims import claim_fewest, claim_to, claim_wish, is_true
from outshiners.deeds import cause, possible, take
from outshiners.errands import Errand
from outshiners.faults import (
    BadNumber, BadRow, BadSpan, Empty, Halted, OutOfRange, Refused, TooLarge, Unknown,
)
from outshiners.webs import Web
from outshiners.worlds import World

HUGE = LIMIT + 1
NUMBERS = (True, False, HUGE, -HUGE)
BAD_NAMES = ("z", "", "A", "No Name")
CLAIM = ("granted", (("b", 3),), (5, 3, 3), ("m",))


def sample_book():
    """The book of the example, and a ceiling and a span more."""
    book = Book(sample_world())
    book.claim(CLAIM)
    book.deed("m")
    book.claim(CLAIM)
    book.set_ceiling("b", 5)
    book.set_span("k", 2, None)
    book.deed("k")
    return book


SAMPLE_ROWS = [
    ("claim", CLAIM, True), ("deed", "m"), ("claim", CLAIM, False), ("ceiling", "b", 5), ("span", "k", 2, None), ("deed", "k"),
]


def full_book(many=100, start=None):
    """A book with so many rows that change nothing."""
    book = Book(sample_world() if start is None else start)
    for _ in range(many):
        book.set_ceiling("a", None)
    return book


def random_book(rng, many=12):
    """Any book of a small world."""
    book = Book(random_world(rng, 4, 6))
    for _ in range(rng.randint(0, many)):
        web = book.world.web
        choice = rng.randrange(6)
        if choice == 0 and possible(book.world):
            book.deed(rng.choice(possible(book.world)))
        elif choice == 1:
            book.set_ceiling(rng.choice(web.lamps), rng.choice([None, 0, 3, 4, 9]))
        elif choice == 2 and web.bonds:
            book.set_span(rng.choice(web.bonds), rng.choice([None, 0, 1]), rng.choice([None, 1, 3]))
        elif choice == 3:
            book.claim(claim_wish(book.world, random_wish(rng, book.world)))
        elif choice == 4 and book.rows:
            book.claim(claim_to(book.start, book.start))
        elif choice == 5:
            try:
                book.errand(Errand(random_errand(rng, web.lamps, most=2)))
            except Halted:
                pass
    return book


def behind_by_words(world, row):
    """The world behind the row by the words of points 43 and 45; None if the row is wrong."""
    def number(value):
        return value is None or (type(value) is int and abs(value) <= LIMIT)

    web = world.web
    if row[:1] == ("deed",) and len(row) == 2:
        return dict(steps_by_words(world)).get(row[1])
    if row[:1] == ("ceiling",) and len(row) == 3 and row[1] in web.lamps and number(row[2]):
        lamps = [(lamp, row[2] if lamp == row[1] else ceiling) for lamp, ceiling in web.lamp_rows]
        return World(Web(lamps, web.bond_rows), world.lights)
    if row[:1] == ("span",) and len(row) == 4 and row[1] in web.bonds and number(row[2]) and number(row[3]):
        if None not in row[2:] and row[2] > row[3]:
            return None
        bonds = [other[:3] + row[2:] if other[0] == row[1] else other for other in web.bond_rows]
        return World(Web(web.lamp_rows, bonds), world.lights)
    if row[:1] == ("claim",) and len(row) == 3 and row[2] == is_true(world, row[1]):
        return world
    return None


def audit_by_words(world, rows):
    """The place of the first wrong row."""
    for place, row in enumerate(rows):
        world = behind_by_words(world, row)
        if world is None:
            return place
    return None


class Filed(Case):
    def test_the_example(self):
        book = sample_book()
        self.assertSame(book.rows, SAMPLE_ROWS)
        self.assertSame(book.verdicts, [(0, True), (2, False)])
        self.assertSame(book.start, sample_world())
        self.assertSame(book.world.row, (5, 5, 3))
        self.assertSame(book.world.web, sample_web().with_ceiling("b", 5).with_span("k", 2, None))
        self.assertSame(list(book), SAMPLE_ROWS)
        for name in ("rows", "verdicts"):
            self.assertFreshList(lambda: getattr(book, name))

    def test_a_book_without_rows(self):
        book = Book(start=sample_world())
        self.assertSame((book.start, book.world, book.rows, book.verdicts, list(book)), (sample_world(), sample_world(), [], [], []))

    def test_deed(self):
        book = Book(sample_world())
        self.assertSame(book.deed(bond="m"), take(sample_world(), "m"))
        self.assertSame((book.world, book.rows), (take(sample_world(), "m"), [("deed", "m")]))
        self.assertFails(Refused, {"bond": "m", "cause": "alike"}, book.deed, "m")
        self.assertFails(Refused, {"bond": "k", "cause": "ceiling"}, book.deed, "k")
        for bad in BAD_NAMES + ("a",):
            self.assertFails(Unknown, {"name": bad}, book.deed, bad)
        self.assertSame(book.rows, [("deed", "m")])

    def test_set_ceiling(self):
        book = Book(sample_world())
        for lamp, ceiling in (("a", 0), ("b", None), ("b", 4), ("c", LIMIT), ("c", LIMIT)):
            after = book.set_ceiling(ceiling=ceiling, lamp=lamp)
            self.assertSame(after, book.world)
            self.assertSame((after.web.ceiling(lamp), after.lights), (ceiling, sample_world().lights))
            self.assertSame(book.rows[-1], ("ceiling", lamp, ceiling))
        self.assertSame(len(book.rows), 5)
        for bad in NUMBERS:
            self.assertFails(BadNumber, {"number": bad}, book.set_ceiling, "z", bad)
        for bad in BAD_NAMES + ("k",):
            self.assertFails(Unknown, {"name": bad}, book.set_ceiling, bad, None)
        self.assertSame(len(book.rows), 5)

    def test_set_span(self):
        book = Book(sample_world())
        for bond, low, high in (("k", 1, 1), ("m", None, None), ("m", None, 3), ("m", 0, 3), ("m", 0, 3)):
            after = book.set_span(high=high, bond=bond, low=low)
            self.assertSame(after, book.world)
            span = after.web.span(bond)
            self.assertSame((span.low, span.high, after.lights), (low, high, sample_world().lights))
            self.assertSame(book.rows[-1], ("span", bond, low, high))
        for bad in NUMBERS:
            self.assertFails(BadNumber, {"number": bad}, book.set_span, "z", bad, HUGE)
            self.assertFails(BadNumber, {"number": bad}, book.set_span, "z", 9, bad)
        self.assertFails(BadSpan, {"low": 2, "high": 1}, book.set_span, "z", 2, 1)
        for bad in BAD_NAMES + ("a",):
            self.assertFails(Unknown, {"name": bad}, book.set_span, bad, None, 3)
        self.assertSame(len(book.rows), 5)

    def test_unknown_is_asked_of_the_web_at_this_time(self):
        book = Book(sample_world())
        book.set_span("m", 0, 2)
        self.assertFails(Refused, {"bond": "m", "cause": "shut"}, book.deed, "m")
        book.set_span("m", None, None)
        self.assertSame(book.deed("m").row, (5, 3, 3))

    def test_claim(self):
        book = Book(sample_world())
        for claim in (CLAIM, (), ("word", None, (True,)), ("comes", (5, 1, 3), ()), ("comes", (5, True, 3), ())):
            verdict = book.claim(claim=claim)
            self.assertSame(verdict, is_true(sample_world(), claim))
            self.assertSame(book.rows[-1], ("claim", claim, verdict))
            self.assertSame(book.world, sample_world())
        self.assertSame(book.verdicts, [(0, True), (1, False), (2, False), (3, True), (4, False)])

    def test_errand(self):
        book = Book(sample_world())
        self.assertSame(book.errand(errand=Errand.parse("offer b from a\nlight b from c")), 1)
        self.assertSame(book.rows, [("deed", "m")])
        self.assertSame(book.errand(Errand()), 0)
        self.assertSame(book.rows, [("deed", "m")])
        wave = Book(World.of_row(web_of("abc", ["ab", "bc"]), (5, 3, 0)))
        self.assertSame(wave.errand(Errand.parse("until c 5\n  offer c from b\n  offer b from a\ndone")), 3)
        self.assertSame(wave.rows, [("deed", "k01"), ("deed", "k00"), ("deed", "k01")])
        self.assertSame([wave.world_at(place).row for place in range(4)], [(5, 3, 0), (5, 3, 3), (5, 5, 3), (5, 5, 5)])

    def test_an_errand_that_is_halted_files_nothing(self):
        book = Book(sample_world())
        halted = Errand.parse("light b from c\nuntil b 4\n  spread 3\ndone")
        self.assertFails(Halted, {"place": (1,), "cause": "idle"}, book.errand, halted)
        self.assertFails(Unknown, {"name": "z"}, book.errand, Errand.parse("light b from c\nlight z from y"))
        self.assertSame((book.rows, book.world), ([], sample_world()))

    def test_every_step(self):
        rng = random.Random(141)
        rows = 0
        for _ in range(60):
            book = random_book(rng)
            now = book.start
            for place, row in enumerate(book.rows):
                self.assertSame(book.world_at(place), now)
                now = behind_by_words(now, row)
            self.assertSame(book.world, now)
            self.assertSame(book.world_at(len(book.rows)), now)
            self.assertSame(book.verdicts, [(at, row[2]) for at, row in enumerate(book.rows) if row[0] == "claim"])
            self.assertIs(audit(book.start, book.rows), None)
            self.assertSame(rebuilt(book.start, book.rows), book)
            rows += len(book.rows)
        self.assertGreater(rows, 200)


class Full(Case):
    def test_99_100_and_101_rows(self):
        book = full_book(99)
        book.set_ceiling("a", 5)
        self.assertSame(len(book.rows), 100)
        before = book.rows
        for call in (
            lambda: book.deed("m"), lambda: book.deed("k"), lambda: book.set_ceiling("a", 5), lambda: book.set_span("k", 1, 2),
            lambda: book.claim(CLAIM), lambda: book.claim(()), lambda: book.errand(Errand.parse("light b from c")),
        ):
            self.assertFails(TooLarge, {"limit": 100}, call)
        self.assertSame((book.rows, book.world.row), (before, (5, 1, 3)))
        book.undo()
        self.assertSame(book.deed("m").row, (5, 3, 3))
        self.assertFails(TooLarge, {"limit": 100}, book.deed, "m")

    def test_the_100th_row(self):
        for call in (
            lambda book: book.deed("m"), lambda book: book.set_ceiling("a", 5), lambda book: book.set_span("k", 1, 2),
            lambda book: book.claim(CLAIM), lambda book: book.errand(Errand.parse("light b from c")),
        ):
            book = full_book(99)
            call(book)
            self.assertSame(len(book.rows), 100)
            self.assertFails(TooLarge, {"limit": 100}, book.claim, CLAIM)

    def test_errors_that_go_ahead(self):
        book = full_book()
        for bad in BAD_NAMES:
            self.assertFails(Unknown, {"name": bad}, book.deed, bad)
            self.assertFails(Unknown, {"name": bad}, book.set_ceiling, bad, 1)
            self.assertFails(Unknown, {"name": bad}, book.set_span, bad, 1, 2)
        for bad in NUMBERS:
            self.assertFails(BadNumber, {"number": bad}, book.set_ceiling, "a", bad)
            self.assertFails(BadNumber, {"number": bad}, book.set_span, "k", bad, 2)
        self.assertFails(BadSpan, {"low": 2, "high": 1}, book.set_span, "k", 2, 1)
        self.assertSame(len(book.rows), 100)

    def test_errands_on_full_books(self):
        wave = World.of_row(web_of("abc", ["ab", "bc"]), (5, 3, 0))
        job = Errand.parse("until c 5\n  offer c from b\n  offer b from a\ndone")
        for many in (97, 98, 99, 100):
            book = full_book(many, wave)
            if many == 97:
                self.assertSame(book.errand(job), 3)
                self.assertSame(len(book.rows), 100)
                continue
            self.assertFails(TooLarge, {"limit": 100}, book.errand, job)
            self.assertSame((len(book.rows), book.world.row), (many, (5, 3, 0)))
            self.assertFails(Halted, {"place": (1,), "cause": "dim"}, book.errand, job + Errand.parse("light b from c"))
            self.assertFails(Unknown, {"name": "z"}, book.errand, job + Errand.parse("light a from z"))
            self.assertSame(book.errand(Errand.parse("offer a from b\nspread 99")), 0)
            self.assertSame(book.errand(Errand()), 0)
            self.assertSame(len(book.rows), many)

    def test_100_rows_are_audited_and_rebuilt(self):
        rows = full_book().rows
        self.assertIs(audit(sample_world(), rows), None)
        self.assertSame(rebuilt(sample_world(), rows), full_book())
        self.assertFails(TooLarge, {"limit": 100}, rebuilt(sample_world(), rows).deed, "m")
        self.assertSame(audit(sample_world(), rows[:99] + [("deed", "k")]), 99)
        world = sample_world()
        heavy = claim_fewest(world, take(world, "m"))
        self.assertIs(audit(world, [("claim", heavy, True)] * 100), None)


class Undone(Case):
    def test_undo(self):
        for many in range(1, 7):
            book = sample_book()
            self.assertSame(book.undo(many), SAMPLE_ROWS[6 - many:])
            self.assertSame(book.rows, SAMPLE_ROWS[:6 - many])
            self.assertSame(book.world, sample_book().world_at(6 - many))
            self.assertSame(book, rebuilt(sample_world(), SAMPLE_ROWS[:6 - many]))
        book = sample_book()
        self.assertSame([book.undo(), book.undo(count=2)], [SAMPLE_ROWS[5:], SAMPLE_ROWS[3:5]])
        removed = book.undo(3)
        removed.clear()
        self.assertSame((book.rows, book.world), ([], sample_world()))
        self.assertSame(book.deed("m").row, (5, 3, 3))

    def test_wrong(self):
        book = sample_book()
        for bad in (0, -1, 101, LIMIT, -LIMIT):
            self.assertFails(OutOfRange, {"number": bad, "low": 1, "high": 100}, book.undo, bad)
            self.assertFails(OutOfRange, {"number": bad, "low": 1, "high": 100}, Book(sample_world()).undo, bad)
        for bad in NUMBERS:
            self.assertFails(BadNumber, {"number": bad}, book.undo, bad)
        for many in (7, 8, 100):
            self.assertFails(Empty, {}, book.undo, many)
        self.assertSame((book.rows, book.world.row), (SAMPLE_ROWS, (5, 5, 3)))
        self.assertFails(Empty, {}, Book(sample_world()).undo)
        self.assertSame(len(full_book().undo(100)), 100)

    def test_world_at(self):
        book = sample_book()
        rows = [(5, 1, 3), (5, 1, 3), (5, 3, 3), (5, 3, 3), (5, 3, 3), (5, 3, 3), (5, 5, 3)]
        self.assertSame([book.world_at(place).row for place in range(7)], rows)
        self.assertSame(book.world_at(place=4).web, sample_web().with_ceiling("b", 5))
        self.assertSame(Book(sample_world()).world_at(0), sample_world())
        for bad in (-1, 7, LIMIT):
            self.assertFails(OutOfRange, {"number": bad, "low": 0, "high": 6}, book.world_at, bad)
        self.assertFails(OutOfRange, {"number": 1, "low": 0, "high": 0}, Book(sample_world()).world_at, 1)
        for bad in NUMBERS:
            self.assertFails(BadNumber, {"number": bad}, book.world_at, bad)


class Compared(Case):
    def test_twin(self):
        book = sample_book()
        other = book.twin()
        self.assertSame(other, book)
        self.assertSame((other.rows, other.world, other.start), (book.rows, book.world, book.start))
        other.undo(3)
        self.assertSame(book.rows, SAMPLE_ROWS)
        self.assertSame(book.world.row, (5, 5, 3))
        book.undo(5)
        self.assertSame(other.rows, SAMPLE_ROWS[:3])
        self.assertSame(other.world_at(2).row, (5, 3, 3))
        self.assertSame(Book(sample_world()).twin(), Book(sample_world()))
        self.assertSame(len(full_book().twin().rows), 100)

    def test_equal(self):
        book = sample_book()
        self.assertSame(book == sample_book(), True)
        self.assertSame(book == rebuilt(sample_world(), SAMPLE_ROWS), True)
        shorter, other_start = sample_book(), Book(sample_world().with_light("a", 6))
        shorter.undo()
        # The claim changes nothing, but it is a row.
        claimed = sample_book()
        claimed.claim(())
        for other in (shorter, claimed, Book(sample_world()), other_start, sample_world(), SAMPLE_ROWS, "book", 1):
            self.assertSame(book == other, False)
            self.assertSame(other == book, False)
        self.assertSame(Book(sample_world()) == other_start, False)

    def test_true_is_equal_to_1_in_rows(self):
        first, second = Book(sample_world()), Book(sample_world())
        first.claim(("comes", (5, True, 3), ()))
        second.claim(("comes", (5, 1, 3), ()))
        self.assertSame(first == second, False)
        self.assertSame(first_unlike(first, second), ("row", 0))
        first.undo()
        second.undo()
        first.claim(("word", True))
        second.claim(("word", 1))
        self.assertSame(first == second, True)
        self.assertIs(first_unlike(first, second), None)

    def test_first_unlike(self):
        book = sample_book()
        names = ["first", "second"]
        self.assertCall(first_unlike, names, [book, sample_book()], None)
        for many in range(6):
            other = rebuilt(sample_world(), SAMPLE_ROWS[:many])
            self.assertCall(first_unlike, names, [book, other], ("row", many))
            self.assertCall(first_unlike, names, [other, book], ("row", many))
            other.claim(("odd",))
            self.assertCall(first_unlike, names, [book, other], ("row", many))
        for start in (path_world(), sample_world().with_light("a", 6), sample_world().over(sample_web().with_ceiling("c", 9))):
            self.assertCall(first_unlike, names, [book, Book(start)], ("start",))
            self.assertCall(first_unlike, names, [Book(start), book], ("start",))

    def test_loops(self):
        book = sample_book()
        self.assertSame([(one, two) for one in book for two in book], [(one, two) for one in SAMPLE_ROWS for two in SAMPLE_ROWS])


class Audited(Case):
    def test_calls(self):
        world = sample_world()
        self.assertSame(audit(world, SAMPLE_ROWS), None)
        self.assertSame(audit(rows=tuple(SAMPLE_ROWS), world=world), None)
        self.assertSame(audit(world, []), None)
        self.assertSame(rebuilt(world, ()), Book(world))
        self.assertSame(rebuilt(rows=SAMPLE_ROWS, world=world), sample_book())
        self.assertFails(BadRow, {"place": 1}, rebuilt, world, [("deed", "m"), ("deed", "m"), ()])
        rows = list(SAMPLE_ROWS)
        book = rebuilt(world, rows)
        rows.clear()
        self.assertSame(book.rows, SAMPLE_ROWS)

    def test_wrong_rows(self):
        world = sample_world()
        for row in (
            (), ("",), ("word",), ("word", "m"), ("deed",), ("deed", "m", "m"), ("deed", "k"), ("deed", "z"), ("deed", ""), ("deed", "a"),
            ("Deed", "m"), ("ceiling",), ("ceiling", "a"), ("ceiling", "a", 3, 3), ("ceiling", "a", 3, "a"), ("ceiling", "z", 3),
            ("ceiling", "k", 3), ("ceiling", "a", True), ("ceiling", "a", HUGE), ("ceiling", "a", -HUGE), ("span",), ("span", "k"),
            ("span", "k", 1), ("span", "k", 1, 2, 3), ("span", "k", 1, 2, "k"), ("span", "z", 1, 2), ("span", "a", 1, 2), ("span", "k", 2, 1),
            ("span", "k", False, 2), ("span", "k", 1, HUGE), ("span", "k", -HUGE, None), ("claim",), ("claim", CLAIM), ("claim", CLAIM, False),
            ("claim", CLAIM, True, True), ("claim", CLAIM, True, CLAIM), ("claim", (), True), ("claim", ("word",), True),
            ("claim", ("comes", (5, 1), ()), True),
        ):
            for ahead in (0, 1, 3):
                rows = [("claim", CLAIM, True)] * ahead + [row] + [("word",)]
                self.assertSame(audit(world, rows), ahead)
                self.assertSame(audit(world, tuple(rows)), ahead)
                self.assertFails(BadRow, {"place": ahead}, rebuilt, world, rows)
        for row in (
            ("deed", "m"), ("ceiling", "a", None), ("ceiling", "b", LIMIT), ("span", "k", None, None), ("span", "k", 2, 2),
            ("span", "k", 3, None), ("claim", CLAIM, True), ("claim", (), False), ("claim", ("word", None, HUGE), False),
            ("claim", ("comes", (5, 1), ()), False), ("claim", ("deed", "m"), False),
        ):
            self.assertIs(audit(world, [row]), None)

    def test_rows_are_judged_where_they_stand(self):
        world = sample_world()
        self.assertSame(audit(world, [("deed", "m"), ("deed", "m")]), 1)
        self.assertSame(audit(world, [("deed", "m"), ("claim", CLAIM, True)]), 1)
        self.assertIs(audit(world, [("ceiling", "b", 5), ("deed", "k"), ("claim", CLAIM, False)]), None)
        self.assertSame(audit(world, [("span", "m", 4, 9), ("deed", "m")]), 1)

    def test_spoilt_at_one_place(self):
        rng = random.Random(142)
        wrong = 0
        for _ in range(40):
            book = random_book(rng)
            rows = book.rows
            lamps, bonds = book.start.web.lamps, book.start.web.bonds
            for place, row in enumerate(rows):
                others = [(), row[:-1], row + row[-1:], ("word",) + row[1:], ("deed", "a"), ("claim", (), True), ("ceiling", lamps[0], 2)]
                others += [("deed", bond) for bond in bonds] + [("span", bond, 2, 3) for bond in bonds]
                others += [row[:-1] + (worth,) for worth in (True, False, 0, 1, HUGE, None) if row[0] in ("ceiling", "span")]
                others += [row[:2] + (not row[2],) for _ in range(1) if row[0] == "claim"]
                others += [("claim", claim_to(book.world_at(place), book.start), verdict) for verdict in (True, False)
                           if book.start.web == book.world_at(place).web]
                for other in others:
                    for spoilt in (rows[:place] + [other] + rows[place + 1:], rows[:place] + [other] + rows[place:]):
                        wanted = audit_by_words(book.start, spoilt)
                        self.assertSame(audit(book.start, spoilt), wanted)
                        if wanted is not None:
                            wrong += 1
                            self.assertFails(BadRow, {"place": wanted}, rebuilt, book.start, spoilt)
                        else:
                            self.assertSame(rebuilt(book.start, spoilt).rows, spoilt)
        self.assertGreater(wrong, 500)

    def test_nothing_is_changed(self):
        world, rows = sample_world(), list(SAMPLE_ROWS)
        before = copy.deepcopy((world, rows))
        audit(world, rows)
        rebuilt(world, rows).undo(3)
        self.assertSame((world, rows), before)
        self.assertSame(cause(world, "k"), "ceiling")


if __name__ == "__main__":
    unittest.main()
