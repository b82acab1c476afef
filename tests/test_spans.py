"""Points 2, 6 and 7 and the interface of spans.py."""
import unittest

from helpers import Case

from outshiners import spans
from outshiners.faults import BadNumber, BadSpan, BadText
from outshiners.spans import Span, check_number, is_number, lower_ceiling, may_take, number_text, parse_number

LIMIT = 1000000000000
NUMBERS = [0, 1, -1, 5, -17, LIMIT, -LIMIT, LIMIT - 1, 1 - LIMIT]
NO_NUMBERS = [True, False, LIMIT + 1, -LIMIT - 1, 10 ** 30, -(10 ** 5000)]
TEXTS = [(0, "0"), (7, "7"), (-7, "-7"), (10, "10"), (-100, "-100"), (LIMIT, "1000000000000"), (-LIMIT, "-1000000000000")]
NO_TEXTS = [
    "", "-", "--1", "+1", "-0", "00", "01", "-01", "007", " 1", "1 ", "1\n", "\n1", "1_000", "1.0", "1e3", "0x1", "a",
    "1000000000001", "-1000000000001", "9" * 100, "-" + "9" * 99, "0" * 100, "none", "None", "..", "1-", "1 2",
]


class Numbers(Case):
    def test_limit(self):
        self.assertSame(spans.LIMIT, LIMIT)

    def test_is_number(self):
        for value in NUMBERS:
            self.assertCall(is_number, ["value"], [value], True)
        for value in NO_NUMBERS + [None]:
            self.assertCall(is_number, ["value"], [value], False)

    def test_check_number(self):
        for value in NUMBERS:
            self.assertCall(check_number, ["value"], [value], value)
        for value in NO_NUMBERS + [None]:
            self.assertFails(BadNumber, {"number": value}, check_number, value)
            self.assertFails(BadNumber, {"number": value}, check_number, value=value)

    def test_may_take(self):
        for light, ceiling, wanted in [
            (3, 3, True), (3, 4, True), (4, 3, False), (0, None, True), (LIMIT, None, True), (-LIMIT, None, True),
            (LIMIT, LIMIT, True), (LIMIT, LIMIT - 1, False), (-LIMIT, -LIMIT, True), (0, -1, False), (-1, 0, True),
        ]:
            self.assertCall(may_take, ["light", "ceiling"], [light, ceiling], wanted)

    def test_may_take_fails(self):
        for bad in NO_NUMBERS:
            self.assertFails(BadNumber, {"number": bad}, may_take, bad, 3)
            self.assertFails(BadNumber, {"number": bad}, may_take, bad, None)
            self.assertFails(BadNumber, {"number": bad}, may_take, 3, bad)
            self.assertFails(BadNumber, {"number": bad}, may_take, ceiling=bad, light=3)
        self.assertFails(BadNumber, {"number": True}, may_take, True, False)
        self.assertFails(BadNumber, {"number": True}, may_take, ceiling=False, light=True)

    def test_lower_ceiling(self):
        for first, second, wanted in [
            (3, 4, 3), (4, 3, 3), (3, 3, 3), (None, 4, 4), (4, None, 4), (None, None, None), (0, None, 0), (None, 0, 0),
            (-LIMIT, LIMIT, -LIMIT), (0, 1, 0), (0, -1, -1),
        ]:
            self.assertCall(lower_ceiling, ["first", "second"], [first, second], wanted)

    def test_lower_ceiling_fails(self):
        for bad in NO_NUMBERS:
            self.assertFails(BadNumber, {"number": bad}, lower_ceiling, bad, 3)
            self.assertFails(BadNumber, {"number": bad}, lower_ceiling, None, bad)
            self.assertFails(BadNumber, {"number": bad}, lower_ceiling, second=None, first=bad)
        self.assertFails(BadNumber, {"number": False}, lower_ceiling, False, True)

    def test_number_text(self):
        for number, text in TEXTS:
            self.assertCall(number_text, ["number"], [number], text)
        for bad in NO_NUMBERS:
            self.assertFails(BadNumber, {"number": bad}, number_text, bad)

    def test_parse_number(self):
        for number, text in TEXTS:
            self.assertCall(parse_number, ["text"], [text], number)
        for text in NO_TEXTS:
            self.assertFails(BadText, {"line": 1}, parse_number, text)
            self.assertFails(BadText, {"line": 1}, parse_number, text=text)

    def test_parse_number_of_each_sign(self):
        for number in range(32, 127):
            sign = chr(number)
            if sign in "0123456789":
                self.assertSame(parse_number(sign), number - 48)
            else:
                self.assertFails(BadText, {"line": 1}, parse_number, sign)
                self.assertFails(BadText, {"line": 1}, parse_number, "1" + sign)

    def test_a_very_long_text_is_a_fault_too(self):
        self.assertFails(BadText, {"line": 1}, parse_number, "1" * 5000)

    def test_digits_of_other_scripts_are_none(self):
        for text in ("\u0663", "1\u0663", "\u00b2", "-\u00b2"):
            self.assertFails(BadText, {"line": 1}, parse_number, text)

    def test_texts_and_numbers_belong_to_one_another(self):
        for number in list(range(-120, 121)) + [10 ** power for power in range(13)]:
            self.assertSame(parse_number(number_text(number)), number)


SPANS = [
    (2, 5, "2..5"), (None, 5, "..5"), (2, None, "2.."), (None, None, ".."), (-3, -1, "-3..-1"), (0, 0, "0..0"),
    (None, 0, "..0"), (0, None, "0.."), (-LIMIT, LIMIT, "-1000000000000..1000000000000"), (None, -1, "..-1"),
]
ENDS = [None, -2, -1, 0, 1, 2]


def all_spans():
    """The spans over a few ends."""
    return [Span(low, high) for low in ENDS for high in ENDS if low is None or high is None or low <= high]


class Spans(Case):
    def test_attributes_and_text(self):
        for low, high, text in SPANS:
            for span in (Span(low, high), Span(high=high, low=low), Span(low, high=high)):
                self.assertSame((span.low, span.high, span.text), (low, high, text))

    def test_ends_are_open_unless_told(self):
        self.assertSame((Span().low, Span().high), (None, None))
        self.assertSame((Span(3).low, Span(3).high), (3, None))
        self.assertSame((Span(high=3).low, Span(high=3).high), (None, 3))

    def test_bad_numbers(self):
        for bad in NO_NUMBERS:
            self.assertFails(BadNumber, {"number": bad}, Span, bad)
            self.assertFails(BadNumber, {"number": bad}, Span, bad, 3)
            self.assertFails(BadNumber, {"number": bad}, Span, 3, bad)
            self.assertFails(BadNumber, {"number": bad}, Span, high=bad)
        self.assertFails(BadNumber, {"number": True}, Span, True, False)
        self.assertFails(BadNumber, {"number": True}, Span, high=False, low=True)

    def test_bad_spans(self):
        self.assertFails(BadSpan, {"low": 5, "high": 2}, Span, 5, 2)
        self.assertFails(BadSpan, {"low": 1, "high": 0}, Span, high=0, low=1)
        self.assertFails(BadSpan, {"low": LIMIT, "high": -LIMIT}, Span, LIMIT, -LIMIT)
        # A bad number goes ahead of a bad span.
        self.assertFails(BadNumber, {"number": LIMIT + 1}, Span, LIMIT + 1, 2)
        self.assertFails(BadNumber, {"number": -LIMIT - 1}, Span, 5, -LIMIT - 1)

    def test_lights_in_a_span(self):
        for low, high, _ in SPANS:
            span = Span(low, high)
            for light in list(range(-6, 7)) + NUMBERS:
                wanted = (low is None or light >= low) and (high is None or light <= high)
                self.assertSame(light in span, wanted)

    def test_lights_of_any_size(self):
        huge = 10 ** 40
        self.assertSame([huge in Span(), -huge in Span()], [True, True])
        self.assertSame([huge in Span(0), -huge in Span(0)], [True, False])
        self.assertSame([huge in Span(high=0), -huge in Span(high=0)], [False, True])
        self.assertSame([huge in Span(0, LIMIT), -huge in Span(-LIMIT, 0)], [False, False])

    def test_the_span_of_both(self):
        for first in all_spans():
            for second in all_spans():
                both = first & second
                passed = [light for light in range(-4, 5) if light in first and light in second]
                if both is None:
                    self.assertEqual(passed, [])
                else:
                    self.assertEqual([light for light in range(-4, 5) if light in both], passed)
                    self.assertNotEqual(passed, [])
                    self.assertSame(both.low is None, first.low is None and second.low is None)
                    self.assertSame(both.high is None, first.high is None and second.high is None)

    def test_the_span_of_both_by_example(self):
        self.assertSame((Span(1, 5) & Span(3, None)).text, "3..5")
        self.assertSame((Span() & Span()).text, "..")
        self.assertSame((Span(None, 3) & Span(3, None)).text, "3..3")
        self.assertIs(Span(None, 2) & Span(3, None), None)
        self.assertSame((Span(0) & Span(None, 0)).text, "0..0")
        first, second = Span(0, 9), Span(2, 3)
        self.assertIsInstance(first & second, Span)
        self.assertSame((first.text, second.text), ("0..9", "2..3"))

    def test_equality(self):
        for first in all_spans():
            for second in all_spans():
                self.assertSame(first == second, (first.low, first.high) == (second.low, second.high))
        for other in (3, "2..5", (2, 5), [2, 5], {}, True):
            self.assertSame(Span(2, 5) == other, False)
            self.assertSame(other == Span(2, 5), False)
        self.assertSame(Span(None, 0) == Span(None, None), False)

    def test_point(self):
        for number in NUMBERS:
            for span in (Span.point(number), Span.point(number=number), Span(1, 2).point(number)):
                self.assertSame((span.low, span.high), (number, number))
        for bad in NO_NUMBERS + [None]:
            self.assertFails(BadNumber, {"number": bad}, Span.point, bad)

    def test_parse(self):
        for low, high, text in SPANS:
            for span in (Span.parse(text), Span.parse(text=text), Span(1, 2).parse(text)):
                self.assertSame((span.low, span.high), (low, high))

    def test_parse_fails(self):
        for text in [
            "", ".", "...", "....", "2", "2.5", "2...5", "5..2", "0..-1", " ..", ".. ", "2 ..5", "2.. 5", "02..5",
            "2..05", "-0..", "..-0", "+2..5", "2..5..", "..2..5", "1..2..3", "none..5", "2..none", "2..5\n", "\n2..5",
            "1000000000001..", "..1000000000001", "a..b", "2-5", "-..-", "." * 100, "1" * 98 + "..",
        ]:
            self.assertFails(BadText, {"line": 1}, Span.parse, text)

    def test_texts_are_read_back(self):
        for span in all_spans():
            self.assertSame(Span.parse(span.text) == span, True)


if __name__ == "__main__":
    unittest.main()
