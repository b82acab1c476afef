"""Point 4: the error classes and their attributes."""
import unittest

from helpers import Case

from outshiners import faults

CLASSES = [
    ("BadName", ["name"]),
    ("BadNumber", ["number"]),
    ("BadSpan", ["low", "high"]),
    ("Doubled", ["name"]),
    ("SelfBond", ["bond"]),
    ("Unknown", ["name"]),
    ("Missing", ["lamp"]),
    ("BadStretch", ["number"]),
    ("WebsDiffer", []),
    ("BordersDiffer", ["lamp"]),
    ("OutOfRange", ["number", "low", "high"]),
    ("TooLarge", ["limit"]),
    ("BadText", ["line"]),
    ("BadErrand", ["place"]),
    ("BadRow", ["place"]),
    ("Refused", ["bond", "cause"]),
    ("Broken", ["place", "bond", "cause"]),
    ("NotComing", ["paper"]),
    ("Ungranted", ["paper"]),
    ("Halted", ["place", "cause"]),
    ("Empty", []),
]


class Faults(Case):
    def test_the_base_stands_directly_under_value_error(self):
        self.assertEqual(faults.OutshinerError.__bases__, (ValueError,))

    def test_each_class_stands_directly_under_the_base(self):
        for name, _ in CLASSES:
            self.assertEqual(getattr(faults, name).__bases__, (faults.OutshinerError,), name)

    def test_there_is_no_other_class(self):
        found = [name for name, value in vars(faults).items() if isinstance(value, type)]
        self.assertEqual(found, ["OutshinerError"] + [name for name, _ in CLASSES])

    def test_each_class_is_defined_in_faults(self):
        for name, _ in CLASSES:
            self.assertEqual(getattr(faults, name).__module__, "outshiners.faults")

    def test_attributes_by_position_in_their_order(self):
        for name, attributes in CLASSES:
            values = [("worth", place) for place in range(len(attributes))]
            error = getattr(faults, name)(*values)
            self.assertSame(vars(error), dict(zip(attributes, values)))

    def test_attributes_by_name(self):
        for name, attributes in CLASSES:
            values = {attribute: attribute.upper() for attribute in attributes}
            self.assertSame(vars(getattr(faults, name)(**values)), values)

    def test_a_wrong_count_of_attributes_is_refused(self):
        for name, attributes in CLASSES:
            if attributes:
                with self.assertRaises(TypeError):
                    getattr(faults, name)(*[0] * (len(attributes) + 1))
                with self.assertRaises(TypeError):
                    getattr(faults, name)()

    def test_attributes_are_kept_as_they_are(self):
        for value in (True, 1, None, 10 ** 30, "", ("shade", "a", ("a", "b"))):
            self.assertSame(faults.BadNumber(value).number, value)
            self.assertSame(faults.NotComing(value).paper, value)
        paper = ("shade", "a", ("a",))
        self.assertIs(faults.Ungranted(paper).paper, paper)

    def test_a_class_catches_only_its_own_errors(self):
        with self.assertRaises(faults.Unknown):
            try:
                raise faults.Unknown("a")
            except faults.BadName:
                self.fail("Unknown is no BadName")

    def test_all_are_caught_as_value_errors(self):
        for name, attributes in CLASSES:
            with self.assertRaises(ValueError):
                raise getattr(faults, name)(*attributes)


if __name__ == "__main__":
    unittest.main()
