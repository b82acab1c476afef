"""Books: a world, and all that is filed of what happens to it (points 43 to 45)."""
from outshiners.checks import check_between, check_bonds
from outshiners.claims import is_true
from outshiners.deeds import cause, take
from outshiners.faults import BadRow, Empty, Halted, TooLarge
from outshiners.spans import are_crossed, check_number, is_number

MOST_ROWS = 100
# The count of the items of a row with this word.
LENGTHS = {"deed": 2, "ceiling": 3, "span": 4, "claim": 3}


class Book:
    """A start and rows, which make another world of it."""

    def __init__(self, start):
        self._rows = []
        # The world before each row, and the one behind the last row.
        self._worlds = [start]

    @property
    def start(self):
        """The World ahead of all rows."""
        return self._worlds[0]

    @property
    def world(self):
        """The World that the rows make of the start."""
        return self._worlds[-1]

    @property
    def rows(self):
        """The list of the rows."""
        return list(self._rows)

    @property
    def verdicts(self):
        """The list of the pairs (place, verdict) of the claim rows."""
        return [(place, row[2]) for place, row in enumerate(self._rows) if row[0] == "claim"]

    def deed(self, bond):
        """File the deed; return the World after it."""
        check_bonds(self.world.web, [bond])
        check_room(self, 1)
        return self.file_row(("deed", bond), take(self.world, bond))

    def set_ceiling(self, lamp, ceiling):
        """Give the lamp this ceiling; return the World after it."""
        changed = self.world.over(self.world.web.with_ceiling(lamp, ceiling))
        check_room(self, 1)
        return self.file_row(("ceiling", lamp, ceiling), changed)

    def set_span(self, bond, low, high):
        """Give the bond this span; return the World after it."""
        changed = self.world.over(self.world.web.with_span(bond, low, high))
        check_room(self, 1)
        return self.file_row(("span", bond, low, high), changed)

    def claim(self, claim):
        """File the claim with its verdict; return the verdict."""
        check_room(self, 1)
        verdict = is_true(self.world, claim)
        self.file_row(("claim", claim, verdict), self.world)
        return verdict

    def errand(self, errand):
        """Run the errand and file its deeds; return their count."""
        outcome = errand(self.world)
        if outcome[0] == "halted":
            raise Halted(outcome[3], outcome[4])
        check_room(self, len(outcome[2]))
        for bond in outcome[2]:
            self.file_row(("deed", bond), take(self.world, bond))
        return len(outcome[2])

    def undo(self, count=1):
        """Remove the last rows; return the list of them in the order in which they were filed."""
        check_number(count)
        check_between(count, 1, MOST_ROWS)
        left = len(self._rows) - count
        if left < 0:
            raise Empty()
        removed = self._rows[left:]
        self._rows = self._rows[:left]
        self._worlds = self._worlds[:left + 1]
        return removed

    def world_at(self, place):
        """The World before the row at this place."""
        check_number(place)
        check_between(place, 0, len(self._rows))
        return self._worlds[place]

    def twin(self):
        """A new Book with the same start and the same rows."""
        other = Book(self.start)
        for row, after in zip(self.rows, self._worlds[1:]):
            other.file_row(row, after)
        return other

    def file_row(self, row, after):
        """Put a right row behind all others; return the World that it makes of the world of the book."""
        self._rows.append(row)
        self._worlds.append(after)
        return after

    def __iter__(self):
        return iter(self._rows)

    def __eq__(self, other):
        return isinstance(other, Book) and self._worlds[0] == other._worlds[0] and self._rows == other._rows


def check_room(book, many):
    """Raise TooLarge if the book has no room for so many more rows."""
    if len(book.rows) + many > MOST_ROWS:
        raise TooLarge(MOST_ROWS)


def audit(world, rows):
    """The place of the first wrong row of a book with this start; None if there is none."""
    now = world
    for place, row in enumerate(rows):
        now = world_behind(now, row)
        if now is None:
            return place
    return None


def world_behind(world, row):
    """The World that the row makes of the world; None if the row is wrong there."""
    word = row[0] if len(row) > 0 else ""
    if len(row) != LENGTHS.get(word):
        return None
    if word == "deed":
        return take(world, row[1]) if row[1] in world.web.bonds and cause(world, row[1]) is None else None
    if word == "ceiling":
        is_right = row[1] in world.web and is_end(row[2])
        return world.over(world.web.with_ceiling(row[1], row[2])) if is_right else None
    if word == "span":
        is_right = row[1] in world.web.bonds and is_end(row[2]) and is_end(row[3]) and not are_crossed(row[2], row[3])
        return world.over(world.web.with_span(row[1], row[2], row[3])) if is_right else None
    return world if row[2] == is_true(world, row[1]) else None


def is_end(value):
    """True if the value is a number or None, otherwise False."""
    return value is None or is_number(value)


def rebuilt(world, rows):
    """The Book with this start and these rows; raise BadRow for the first wrong one."""
    book = Book(world)
    for place, row in enumerate(rows):
        after = world_behind(book.world, row)
        if after is None:
            raise BadRow(place)
        book.file_row(row, after)
    return book


def first_unlike(first, second):
    """Where two books begin to be unlike, a tuple; None if they are equal."""
    if not first.start == second.start:
        return ("start",)
    rows = first.rows
    other_rows = second.rows
    if rows == other_rows:
        return None
    place = 0
    while rows[place:place + 1] == other_rows[place:place + 1]:
        place += 1
    return ("row", place)
