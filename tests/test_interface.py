"""The interface as DOC.md lists it: where each name stands, its parameters, and its examples."""
import doctest
import importlib
import inspect
import unittest

from helpers import sample_web, sample_world

FUNCTIONS = {
    "names": ["is_name(text)", "check_name(text)", "ordered(names)", "fresh_name(names, *, prefix='x')"],
    "spans": [
        "is_number(value)", "check_number(value)", "may_take(light, ceiling)", "lower_ceiling(first, second)",
        "number_text(number)", "parse_number(text)",
    ],
    "deeds": [
        "cause(world, bond)", "take(world, bond)", "possible(world)", "at_rest(world)", "giver_taker(world, bond)",
        "replay(world, history)", "worlds_along(world, history)", "rows_along(world, history)",
        "feeders(world, history)", "chain_to(world, history, lamp)", "split_at(world, history, place)",
        "joined(world, left, right)", "by_light(world, history)", "is_history(first, second, history)",
    ],
}
CLASSES = {
    ("spans", "Span"): [
        "__init__(self, low=None, high=None)", "property text", "__contains__", "__and__", "__eq__",
        "classmethod point(number)", "staticmethod parse(text)",
    ],
    ("webs", "Web"): [
        "__init__(self, lamps, bonds=())", "property lamps", "property bonds", "property lamp_rows",
        "property bond_rows", "ceiling(self, lamp)", "ends(self, bond)", "span(self, bond)", "lets(self, bond, light)",
        "across(self, bond, lamp)", "bonds_of(self, lamp)", "with_ceiling(self, lamp, ceiling)",
        "with_span(self, bond, low, high)", "with_bond(self, name, first, second, *, low=None, high=None)",
        "without_bond(self, bond)", "__contains__", "__iter__", "__eq__",
    ],
    ("worlds", "World"): [
        "__init__(self, web, lights)", "property web", "property lights", "property row", "property borne",
        "light(self, lamp)", "lamps_with(self, light)", "with_light(self, lamp, light)", "over(self, web)",
        "under(self, other)", "__contains__", "__iter__", "__or__", "__eq__", "classmethod of_row(web, row)",
        "classmethod flat(web, light)",
    ],
}
EXAMPLES = """
>>> from outshiners.webs import Web
>>> from outshiners.worlds import World
>>> W = Web([("a", None), ("b", 4), ("c", None)], [("k", "a", "b", None, None), ("m", "b", "c", 0, 3)])
>>> S = World(W, {"a": 5, "b": 1, "c": 3})
>>> S.row
(5, 1, 3)
>>> (S | World.flat(W, 2)).row
(5, 2, 3)
>>> from outshiners.deeds import cause, take
>>> cause(S, "k")
'ceiling'
>>> take(S, "m").row
(5, 3, 3)
"""


def member_text(owner, name):
    """The line of CLASSES for what the body of the class itself has under this name."""
    member = vars(owner)[name]
    if isinstance(member, property):
        return f"property {name}"
    if isinstance(member, (classmethod, staticmethod)):
        return f"{type(member).__name__} {name}{inspect.signature(getattr(owner, name))}"
    if name.startswith("__") and name != "__init__":
        return name
    return f"{name}{inspect.signature(member)}"


class Interface(unittest.TestCase):
    def test_functions(self):
        for module, lines in FUNCTIONS.items():
            for line in lines:
                found = getattr(importlib.import_module(f"outshiners.{module}"), line.partition("(")[0])
                self.assertEqual(f"{found.__name__}{inspect.signature(found)}", line)
                self.assertEqual(found.__module__, f"outshiners.{module}")
                self.assertTrue(inspect.isfunction(found))

    def test_classes(self):
        for (module, name), lines in CLASSES.items():
            owner = getattr(importlib.import_module(f"outshiners.{module}"), name)
            self.assertEqual(owner.__module__, f"outshiners.{module}")
            for line in lines:
                member = line.partition("(")[0].split(" ")[-1]
                self.assertEqual(member_text(owner, member), line)

    def test_examples(self):
        test = doctest.DocTestParser().get_doctest(EXAMPLES, {}, "interface", None, 0)
        runner = doctest.DocTestRunner(verbose=False)
        runner.run(test)
        self.assertEqual((runner.failures, runner.tries), (0, 9))

    def test_properties_are_only_read(self):
        for found, name in [(sample_web(), "lamps"), (sample_world(), "row"), (sample_world(), "web")]:
            with self.assertRaises(AttributeError):
                setattr(found, name, [])


if __name__ == "__main__":
    unittest.main()
