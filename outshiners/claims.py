"""Claims, which anybody can judge over a world (point 42)."""
from outshiners.aims import full_history
from outshiners.coming import is_obstacle, obstacle
from outshiners.deeds import is_history
from outshiners.joinings import history_of
from outshiners.spans import is_number
from outshiners.tables import fewest_tables, is_fewest
from outshiners.wishes import grant, is_grant, is_wish_fault, told_of, wish_fault
from outshiners.worlds import World

# The count of the items of a claim with this word.
LENGTHS = {"comes": 3, "blocked": 3, "granted": 4, "ungranted": 3, "fewest": 4}


def is_true(world, claim):
    """True if the claim is true over the world, otherwise False."""
    word = claim[0] if len(claim) > 0 else ""
    if len(claim) != LENGTHS.get(word):
        return False
    if word == "ungranted":
        wish = told_wish(world.web, claim[1])
        return wish is not None and is_wish_fault(world, wish, claim[2])
    end = told_end(world.web, claim[2] if word == "granted" else claim[1])
    if end is None:
        return False
    if word == "granted":
        wish = told_wish(world.web, claim[1])
        return wish is not None and is_grant(world, wish, end, claim[3])
    if word == "comes":
        return is_history(world, end, claim[2])
    if word == "blocked":
        return is_obstacle(world, end, claim[2])
    return is_fewest(world, end, claim[2], claim[3])


def told_end(web, row):
    """The World with this row; None if there is none."""
    if len(row) != len(web.lamps) or not all([is_number(light) for light in row]):
        return None
    return World.of_row(web, row)


def told_wish(web, told):
    """The wish of these pairs (lamp, light), a dict; None if they are not the pairs of a wish in name order."""
    if not all([len(pair) == 2 for pair in told]):
        return None
    lamps = [lamp for lamp, _ in told]
    if not all([lamp in web and is_number(light) for lamp, light in told]) or lamps != sorted(set(lamps)):
        return None
    return {lamp: light for lamp, light in told}


def claim_to(first, second):
    """A true claim that second comes of first, or that it does not."""
    paper = obstacle(first, second)
    if paper is not None:
        return ("blocked", second.row, paper)
    return ("comes", second.row, tuple(full_history(first, second)))


def claim_wish(world, wish=None):
    """A true claim that the wish is granted, or that it is not."""
    told = tuple(told_of(world, wish).items())
    paper = wish_fault(world, wish)
    if paper is not None:
        return ("ungranted", told, paper)
    found, history = grant(world, wish)
    return ("granted", told, found.row, tuple(history))


def claim_fewest(first, second):
    """A true claim that tells a shortest history from first to second."""
    tables = tuple([(light, tuple(rows)) for light, rows in fewest_tables(first, second)])
    return ("fewest", second.row, tuple(history_of(first, second)), tables)
