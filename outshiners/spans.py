"""Numbers, ceilings and spans (points 2, 6 and 7)."""
from outshiners.faults import BadNumber, BadSpan, BadText

LIMIT = 10 ** 12
# "-1000000000000" is the longest decimal text of a number.
LONGEST_NUMBER = 14


def is_number(value):
    """True if the value is a number, otherwise False; True and False are none."""
    return isinstance(value, int) and not isinstance(value, bool) and -LIMIT <= value <= LIMIT


def check_number(value):
    """The value; raise BadNumber if it is no number."""
    if not is_number(value):
        raise BadNumber(value)
    return value


def check_open_number(value):
    """The value; raise BadNumber if it is neither None nor a number."""
    if value is None:
        return None
    return check_number(value)


def check_low_high(low, high):
    """Raise BadSpan if the low is above the high."""
    if are_crossed(low, high):
        raise BadSpan(low, high)


def are_crossed(low, high):
    """True if neither end is open and the low is above the high."""
    return low is not None and high is not None and low > high


def may_take(light, ceiling):
    """True if the light is not above the ceiling, otherwise False."""
    check_number(light)
    check_open_number(ceiling)
    return ceiling is None or light <= ceiling


def lower_ceiling(first, second):
    """The lower one of two ceilings."""
    check_open_number(first)
    check_open_number(second)
    return lesser_end(first, second)


def told_ends(first, second):
    """The list of those of the two ends that are not None."""
    return [end for end in (first, second) if end is not None]


def lesser_end(first, second):
    """The lesser one of two ends of which None bounds nothing."""
    return min(told_ends(first, second), default=None)


def greater_end(first, second):
    """The greater one of two ends of which None bounds nothing."""
    return max(told_ends(first, second), default=None)


def number_text(number):
    """The decimal text of the number."""
    return str(check_number(number))


def parse_number(text):
    """The number with this decimal text; raise BadText(1) if there is none."""
    # Without this bound Python itself refuses to read very long texts.
    if len(text) > LONGEST_NUMBER:
        raise BadText(1)
    digits = text[1:] if text.startswith("-") else text
    if not digits.isascii() or not digits.isdigit():
        raise BadText(1)
    number = int(text)
    # Only the decimal text itself comes back the same: "007" and "-0" do not.
    if not is_number(number) or str(number) != text:
        raise BadText(1)
    return number


def end_text(end):
    """The text of one end of a span."""
    return "" if end is None else number_text(end)


def parse_end(text):
    """The end of a span with this text; raise BadText(1) if there is none."""
    return None if text == "" else parse_number(text)


class Span:
    """A low and a high, each a number or None: the lights that a bond lets pass."""

    def __init__(self, low=None, high=None):
        check_open_number(low)
        check_open_number(high)
        check_low_high(low, high)
        self.low = low
        self.high = high

    @property
    def text(self):
        """The low, two dots and the high; an open end is left out."""
        return f"{end_text(self.low)}..{end_text(self.high)}"

    def __contains__(self, light):
        above_low = self.low is None or self.low <= light
        return above_low and (self.high is None or light <= self.high)

    def __and__(self, other):
        low = greater_end(self.low, other.low)
        high = lesser_end(self.high, other.high)
        return None if are_crossed(low, high) else Span(low, high)

    def __eq__(self, other):
        return isinstance(other, Span) and self.low == other.low and self.high == other.high

    @classmethod
    def point(cls, number):
        """The span that lets only this number pass."""
        check_number(number)
        return cls(number, number)

    @staticmethod
    def parse(text):
        """The span with this text; raise BadText(1) if there is none."""
        low_text, dots, high_text = text.partition("..")
        if dots == "":
            raise BadText(1)
        low = parse_end(low_text)
        high = parse_end(high_text)
        if are_crossed(low, high):
            raise BadText(1)
        return Span(low, high)
