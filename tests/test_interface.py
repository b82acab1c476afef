"""The interface as DOC.md lists it: where each name stands, its parameters, and its examples."""
import doctest
import importlib
import inspect
import os
import unittest

from helpers import sample_web, sample_world

README = os.path.join(os.path.dirname(os.path.dirname(os.path.abspath(__file__))), "README.md")
FUNCTIONS = {
    "names": ["is_name(text)", "check_name(text)", "ordered(names)", "fresh_name(names, *, prefix='x')"],
    "spans": [
        "is_number(value)", "check_number(value)", "may_take(light, ceiling)", "lower_ceiling(first, second)",
        "number_text(number)", "parse_number(text)",
    ],
    "deeds": [
        "cause(world, bond)", "take(world, bond)", "possible(world)", "at_rest(world)", "giver_taker(world, bond)",
        "replay(world, history)", "worlds_along(world, history)", "rows_along(world, history)",
        "feeders(world, history)", "chain_to(world, history, lamp)", "split_at(world, history, place)",
        "joined(world, left, right)", "by_light(world, history)", "is_history(first, second, history)",
    ],
    "texts": ["web_text(web)", "world_text(world)", "parse_web(text)", "parse_world(web, text)"],
    "renaming": [
        "rename_web(web, lamps=None, bonds=None)", "rename_world(world, lamps=None, bonds=None)", "numbers_of(world)",
        "stretch(world, table)", "ranked(world)",
    ],
    "fields": [
        "free_caps(world)", "springs(world, light)", "field_under(world, caps, light)",
        "groups_under(world, caps, light)", "field(first, second, light)", "groups(first, second, light)",
        "hanging(first, second, light)", "way(world, caps, lamp, light)", "is_way(world, caps, lamp, light, found)",
        "bands(world, caps)", "meeting_lights(world, caps, lamp, other)",
    ],
    "coming": [
        "comes(first, second)", "obstacles(first, second)", "obstacle(first, second)",
        "is_obstacle(first, second, paper)", "is_shade(world, caps, lamp, light, lamps)", "history_to(first, second)",
    ],
    "joinings": [
        "due(first, second, light)", "is_hung(first, second, light, lamps)", "least_joining(first, second, light)",
        "greatest_joining(first, second, light)", "joining_of(first, second, light, size)",
        "counts_by_light(first, second)", "fewest_deeds(first, second)", "most_deeds(first, second)",
        "history_of(first, second, *, deeds=None)",
    ],
    "tables": [
        "open_groups(first, second, light)", "lower_table(first, second, light)",
        "is_lower_table(first, second, light, rows)", "table_value(first, second, light, rows)",
        "fewest_tables(first, second)", "is_fewest(first, second, history, tables)",
    ],
    "wishes": [
        "wish_caps(world, wish)", "wish_faults(world, wish)", "wish_fault(world, wish)",
        "is_wish_fault(world, wish, paper)", "granted(world, wish=None)", "brightest(world, wish=None)",
        "grant(world, wish=None)", "is_grant(world, wish, found, history)", "lights_of(world, wish, lamp)",
        "dimmest_light(world, wish, lamp)", "brightest_light(world, wish, lamp)", "wish_counts(world, wish=None)",
        "fewest_for(world, wish=None)", "most_for(world, wish=None)", "grant_in(world, wish=None, *, deeds=None)",
        "wish_tables(world, wish=None)", "is_fewest_grant(world, wish, found, history, tables)",
    ],
    "survival": [
        "may_survive(world, wish=None)", "must_survive(world, wish=None)", "cannot_survive(world, wish=None)",
        "world_without(world, wish, light)", "survivors(world, wish, lights)",
        "is_survivors(world, wish, lights, lamps, found, history)",
    ],
    "meeting": [
        "common_future(first, second)", "meet(first, second)", "cuts(first, second)", "is_cuts(first, second, rows)",
        "pasts(world, choices)",
    ],
    "listing": [
        "futures(world)", "count_futures(world)", "rests(world)", "rank_of(world, other)", "world_at(world, rank)",
        "between(first, second)", "count_histories(first, second, *, deeds=None)",
        "histories(first, second, *, deeds=None)", "history_at(first, second, rank, *, deeds=None)",
        "history_rank(first, second, history)",
    ],
    "sameness": [
        "form(world)", "alike(left, right)", "matching(left, right)",
        "is_matching(left, right, lamps, bonds, numbers)", "first_difference(left, right)",
    ],
    "pieces": ["glue(first, second)"],
    "borders": [
        "table_at(piece, light)", "tables(piece)", "least_difference(first, second)", "alike_in_all(first, second)",
        "telling(first, second)", "is_telling(first, second, surrounding, wish)", "smaller(piece)", "is_tight(piece)",
    ],
    "diaries": [
        "diary_along(world, history, stops, lamps)", "fits(diary)", "worlds_at(diary, moment)",
        "may_burn(diary, moment, lamp)", "must_burn(diary, moment, lamp)", "run_of(diary)", "is_run(diary, worlds)",
    ],
    "doubts": [
        "first_misfit(diary)", "conflict(diary)", "is_conflict(diary, places)", "wrong_sightings(diary, *, most=2)",
    ],
    "mending": [
        "lifts(first, second)", "mended(web, lamps, bonds)", "mend(first, second, *, most=2)",
        "is_mend(first, second, lamps, bonds)", "drops(world, wish, *, most=2)",
    ],
    "statements": [
        "check_errand(statements)", "errand_text(statements)", "parse_errand(text)", "lamps_named(statements)",
    ],
    "errands": [
        "reached(errand, world)", "errand_of(world, history)", "errands_part(web, lights, first, second)",
    ],
    "claims": [
        "is_true(world, claim)", "claim_to(first, second)", "claim_wish(world, wish=None)",
        "claim_fewest(first, second)",
    ],
    "book": ["audit(world, rows)", "rebuilt(world, rows)", "first_unlike(first, second)"],
}
CLASSES = {
    ("spans", "Span"): [
        "__init__(self, low=None, high=None)", "property text", "__contains__", "__and__", "__eq__",
        "classmethod point(number)", "staticmethod parse(text)",
    ],
    ("webs", "Web"): [
        "__init__(self, lamps, bonds=())", "property lamps", "property bonds", "property lamp_rows",
        "property bond_rows", "ceiling(self, lamp)", "ends(self, bond)", "span(self, bond)", "lets(self, bond, light)",
        "across(self, bond, lamp)", "bonds_of(self, lamp)", "with_ceiling(self, lamp, ceiling)",
        "with_span(self, bond, low, high)", "with_bond(self, name, first, second, *, low=None, high=None)",
        "without_bond(self, bond)", "__contains__", "__iter__", "__eq__",
    ],
    ("worlds", "World"): [
        "__init__(self, web, lights)", "property web", "property lights", "property row", "property borne",
        "light(self, lamp)", "lamps_with(self, light)", "with_light(self, lamp, light)", "over(self, web)",
        "under(self, other)", "__contains__", "__iter__", "__or__", "__eq__", "classmethod of_row(web, row)",
        "classmethod flat(web, light)",
    ],
    ("pieces", "Piece"): [
        "__init__(self, world, border=())", "property world", "property border", "property inner",
        "property border_rows", "without_lamp(self, lamp)", "without_bond(self, bond)", "__eq__",
    ],
    ("diaries", "Diary"): [
        "__init__(self, start, gaps, sightings=())", "property start", "property gaps", "property sightings",
        "property moments", "without(self, places)", "with_sighting(self, moment, lamp, light)", "__eq__",
    ],
    ("errands", "Errand"): [
        "__init__(self, statements=())", "property statements", "property text", "property size",
        "staticmethod parse(text)", "__add__", "__eq__", "__iter__", "__call__",
    ],
    ("book", "Book"): [
        "__init__(self, start)", "property start", "property world", "property rows", "property verdicts",
        "deed(self, bond)", "set_ceiling(self, lamp, ceiling)", "set_span(self, bond, low, high)",
        "claim(self, claim)", "errand(self, errand)", "undo(self, count=1)", "world_at(self, place)", "twin(self)",
        "__iter__", "__eq__",
    ],
}
EXAMPLES = r"""
>>> from outshiners.webs import Web
>>> from outshiners.worlds import World
>>> W = Web([("a", None), ("b", 4), ("c", None)], [("k", "a", "b", None, None), ("m", "b", "c", 0, 3)])
>>> S = World(W, {"a": 5, "b": 1, "c": 3})
>>> S.row
(5, 1, 3)
>>> (S | World.flat(W, 2)).row
(5, 2, 3)
>>> from outshiners.deeds import cause, take
>>> cause(S, "k")
'ceiling'
>>> take(S, "m").row
(5, 3, 3)
>>> from outshiners.texts import web_text
>>> web_text(W)
'web\nlamp a none\nlamp b 4\nlamp c none\nbond k a b none none\nbond m b c 0 3\nend'
>>> from outshiners.fields import bands, free_caps
>>> free_caps(S)
{'a': None, 'b': 4, 'c': None}
>>> bands(S, free_caps(S))
[(None, 0, []), (1, 2, [('b',)]), (3, 3, [('b', 'c')]), (4, 4, [('b',), ('c',)]), (5, None, [('a',), ('c',)])]
>>> from outshiners.coming import obstacle
>>> obstacle(S, World(W, {"a": 5, "b": 3, "c": 5}))
('shade', 'c', ('c',))
>>> from outshiners.joinings import counts_by_light, history_of
>>> counts_by_light(S, World(W, {"a": 5, "b": 3, "c": 3}))
[(1, 0, 0), (3, 1, 1), (5, 0, 0)]
>>> history_of(S, World(W, {"a": 5, "b": 3, "c": 3}))
['m']
>>> from outshiners.tables import fewest_tables
>>> V = Web([("p", None), ("q", None), ("r", None), ("s", None)], [("e", "p", "s", None, None), ("f", "p", "q", None, 5), ("g", "p", "r", None, None)])
>>> H = World(V, {"p": 1, "q": 1, "r": 7, "s": 5})
>>> fewest_tables(H, World(V, {"p": 7, "q": 5, "r": 7, "s": 5}))
[(5, [('p', (0,), 1), ('q', (0,), 0), ('s', (0,), 1)]), (7, [])]
>>> from outshiners.wishes import brightest, lights_of, wish_faults
>>> brightest(S).row
(5, 3, 3)
>>> lights_of(S, None, "b")
[1, 3]
>>> wish_faults(S, {"a": 4, "b": 5, "c": 5})
[('dimmer', 'a'), ('ceiling', 'b'), ('shade', 'c', ('c',))]
>>> from outshiners.survival import survivors
>>> survivors(H, {"q": 5}, [5, 7])
('p', 'r')
>>> from outshiners.meeting import common_future, is_cuts
>>> U = World(W, {"a": 5, "b": 4, "c": 3})
>>> common_future(S, U) is None
True
>>> is_cuts(S, U, [("b", 5, 1, ("ceiling",)), ("b", 4, 1, ("shade", ("b",))), ("b", 3, 2, ("dimmer",)), ("b", 1, 2, ("dimmer",))])
True
>>> from outshiners.listing import futures
>>> [world.row for world in futures(S)]
[(5, 1, 3), (5, 3, 3)]
>>> from outshiners.sameness import form
>>> form(S)
(5, ((1, 3), (2, 5), (4, 5)), ((0, 1, 0, 2), (0, 2, -1, 5)))
>>> from outshiners.errands import Errand
>>> job = Errand.parse("each a c\n  offer b from *\ndone\nuntil b 4\n  spread 3\ndone")
>>> word, world, history, place, cause = job(S)
>>> (word, world.row, history, place, cause)
('halted', (5, 3, 3), ['m'], (1,), 'idle')
>>> from outshiners.book import Book
>>> from outshiners.claims import claim_wish
>>> book = Book(S)
>>> claim = claim_wish(S, {"b": 3})
>>> claim
('granted', (('b', 3),), (5, 3, 3), ('m',))
>>> [book.claim(claim), book.deed("m").row, book.claim(claim), book.verdicts]
[True, (5, 3, 3), False, [(0, True), (2, False)]]
"""


def member_text(owner, name):
    """The line of CLASSES for what the body of the class itself has under this name."""
    member = vars(owner)[name]
    if isinstance(member, property):
        return f"property {name}"
    if isinstance(member, (classmethod, staticmethod)):
        return f"{type(member).__name__} {name}{inspect.signature(getattr(owner, name))}"
    if name.startswith("__") and name != "__init__":
        return name
    return f"{name}{inspect.signature(member)}"


class Interface(unittest.TestCase):
    def test_functions(self):
        for module, lines in FUNCTIONS.items():
            for line in lines:
                found = getattr(importlib.import_module(f"outshiners.{module}"), line.partition("(")[0])
                self.assertEqual(f"{found.__name__}{inspect.signature(found)}", line)
                self.assertEqual(found.__module__, f"outshiners.{module}")
                self.assertTrue(inspect.isfunction(found))

    def test_classes(self):
        for (module, name), lines in CLASSES.items():
            owner = getattr(importlib.import_module(f"outshiners.{module}"), name)
            self.assertEqual(owner.__module__, f"outshiners.{module}")
            for line in lines:
                member = line.partition("(")[0].split(" ")[-1]
                self.assertEqual(member_text(owner, member), line)

    def test_examples(self):
        test = doctest.DocTestParser().get_doctest(EXAMPLES, {}, "interface", None, 0)
        runner = doctest.DocTestRunner(verbose=False)
        test_count = EXAMPLES.count(">>>")
        runner.run(test)
        self.assertEqual((runner.failures, runner.tries), (0, test_count))

    def test_the_readme(self):
        with open(README, encoding="utf-8") as file:
            text = file.read().replace("```", "")
        test = doctest.DocTestParser().get_doctest(text, {}, "readme", None, 0)
        runner = doctest.DocTestRunner(verbose=False)
        runner.run(test)
        self.assertEqual((runner.failures, runner.tries), (0, text.count(">>>")))

    def test_properties_are_only_read(self):
        for found, name in [(sample_web(), "lamps"), (sample_world(), "row"), (sample_world(), "web")]:
            with self.assertRaises(AttributeError):
                setattr(found, name, [])


if __name__ == "__main__":
    unittest.main()
