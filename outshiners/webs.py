"""Webs: lamps with ceilings, and the bonds that join them (point 8)."""
from outshiners.checks import check_between, check_lamp, check_unlike, look_up
from outshiners.faults import SelfBond, Unknown
from outshiners.names import check_name
from outshiners.spans import Span, check_low_high, check_number, check_open_number

MOST_LAMPS = 10
MOST_BONDS = 16


def check_rows(lamps, bonds):
    """Raise what is wrong in the rows of a web, in the order of errors."""
    lamp_names = [row[0] for row in lamps]
    bond_names = [row[0] for row in bonds]
    for name in lamp_names + bond_names:
        check_name(name)
    check_row_numbers(lamps, bonds)
    check_unlike(lamp_names)
    check_unlike(bond_names)
    check_row_ends(lamp_names, bonds)
    check_between(len(lamps), 1, MOST_LAMPS)
    check_between(len(bonds), 0, MOST_BONDS)


def check_row_numbers(lamps, bonds):
    """Raise BadNumber for a ceiling, a low or a high, or else BadSpan."""
    for _, ceiling in lamps:
        check_open_number(ceiling)
    spans = [(low, high) for _, _, _, low, high in bonds]
    for low, high in spans:
        check_open_number(low)
        check_open_number(high)
    for low, high in spans:
        check_low_high(low, high)


def check_row_ends(lamp_names, bonds):
    """Raise SelfBond for a bond, or else Unknown for an end that is no lamp."""
    for bond, first, second, _, _ in bonds:
        if first == second:
            raise SelfBond(bond)
    for _, first, second, _, _ in bonds:
        for end in (first, second):
            if end not in lamp_names:
                raise Unknown(end)


def kept_bond_row(row):
    """The row of a bond as a tuple with its ends in name order."""
    name, first, second, low, high = row
    return (name, min(first, second), max(first, second), low, high)


class Web:
    """Lamps and bonds, kept in name order whatever order they are passed in."""

    def __init__(self, lamps, bonds=()):
        check_rows(lamps, bonds)
        lamp_rows = sorted([(name, ceiling) for name, ceiling in lamps])
        bond_rows = sorted([kept_bond_row(row) for row in bonds])
        self._ceilings = dict(lamp_rows)
        self._bond_rows = tuple(bond_rows)
        self._ends = {name: (first, second) for name, first, second, _, _ in bond_rows}
        self._spans = {name: Span(low, high) for name, _, _, low, high in bond_rows}

    @property
    def lamps(self):
        """The list of the lamps in name order."""
        return list(self._ceilings)

    @property
    def bonds(self):
        """The list of the bonds in name order."""
        return list(self._ends)

    @property
    def lamp_rows(self):
        """The list of (name, ceiling) in name order."""
        return list(self._ceilings.items())

    @property
    def bond_rows(self):
        """The list of (name, end, end, low, high) in name order."""
        return list(self._bond_rows)

    def ceiling(self, lamp):
        """The ceiling of the lamp: a number or None."""
        return look_up(self._ceilings, lamp)

    def ends(self, bond):
        """The tuple of the two ends of the bond in name order."""
        return look_up(self._ends, bond)

    def span(self, bond):
        """The Span of the bond."""
        return look_up(self._spans, bond)

    def lets(self, bond, light):
        """True if the bond lets the light pass, otherwise False."""
        check_number(light)
        return light in self.span(bond)

    def across(self, bond, lamp):
        """The other end of the bond; raise Unknown also for a lamp that is not one of its ends."""
        first, second = self.ends(bond)
        if lamp == first:
            return second
        if lamp == second:
            return first
        raise Unknown(lamp)

    def bonds_of(self, lamp):
        """The list of the bonds of which the lamp is an end."""
        check_lamp(self, lamp)
        return [bond for bond, ends in self._ends.items() if lamp in ends]

    def with_ceiling(self, lamp, ceiling):
        """A new Web in which the lamp has this ceiling."""
        check_open_number(ceiling)
        check_lamp(self, lamp)
        lamp_rows = [(name, ceiling if name == lamp else kept) for name, kept in self._ceilings.items()]
        return Web(lamp_rows, self.bond_rows)

    def with_span(self, bond, low, high):
        """A new Web in which the bond has this span."""
        span = Span(low, high)
        first, second = self.ends(bond)
        bond_rows = self.other_bond_rows(bond) + [(bond, first, second, span.low, span.high)]
        return Web(self.lamp_rows, bond_rows)

    def with_bond(self, name, first, second, *, low=None, high=None):
        """A new Web with one more bond."""
        return Web(self.lamp_rows, self.bond_rows + [(name, first, second, low, high)])

    def without_bond(self, bond):
        """A new Web without the bond."""
        look_up(self._ends, bond)
        return Web(self.lamp_rows, self.other_bond_rows(bond))

    def other_bond_rows(self, bond):
        """The rows of all bonds but this one."""
        return [row for row in self.bond_rows if row[0] != bond]

    def __contains__(self, lamp):
        return lamp in self._ceilings

    def __iter__(self):
        return iter(self._ceilings)

    def __eq__(self, other):
        return isinstance(other, Web) and self._ceilings == other._ceilings and self._bond_rows == other._bond_rows
