"""What a piece does at its border, and which pieces are alike in all surroundings (points 32 to 34)."""
from outshiners.faults import OutshinerError
from outshiners.floods import field_lamps, free_caps_of, joined_lamps, letting_bonds
from outshiners.intervals import longest_intervals, turning_numbers
from outshiners.names import fresh_name
from outshiners.pieces import Piece, check_fit, glue
from outshiners.spans import check_number, is_number
from outshiners.webs import Web
from outshiners.wishes import granted
from outshiners.worlds import World


def table_at(piece, light):
    """The table of the piece at the light: the pair (lit lamps, linked pairs of lamps)."""
    check_number(light)
    return table_of(piece, light)


def table_of(piece, light):
    """The table at a light that is checked already."""
    field = field_lamps(piece.world, free_caps_of(piece.world), light)
    met = {lamp: met_lamps(piece, field, lamp, light) for lamp in takers_of(piece, field, light)}
    springs = piece.world.lamps_with(light)
    lit = [lamp for lamp in met if any([spring in met[lamp] for spring in springs])]
    links = [
        (lamp, other)
        for lamp in met
        for other in met
        if lamp < other and other in met[lamp] and not (lamp in lit and other in lit)
    ]
    return (tuple(lit), tuple(links))


def takers_of(piece, field, light):
    """The list of the border lamps of the field that do not burn with the light yet."""
    return [lamp for lamp in piece.border if lamp in field and piece.world.light(lamp) != light]


def met_lamps(piece, field, lamp, light):
    """The list of the lamps of the field that one bond, or bonds over inner lamps alone, join with the lamp."""
    bonds = letting_bonds(piece.world.web, light)
    near = joined_lamps(bonds, [lamp], [inner for inner in piece.inner if inner in field])
    ends = [end for _, first, second in bonds if first in near or second in near for end in (first, second)]
    return [other for other in field if other in ends]


def tables(piece):
    """The list of (low, high, lit, links) of the longest intervals of numbers with one table."""
    answers = [(number, table_of(piece, number)) for number in turns_of(piece)]
    return [(low, high, lit, links) for low, high, (lit, links) in longest_intervals(answers)]


def turns_of(piece):
    """The ascending list of the numbers at which the table can become different, the least number first."""
    return turning_numbers(piece.world, free_caps_of(piece.world))


def least_difference(first, second):
    """The least number at which the tables differ; None if there is none."""
    check_fit(first, second)
    for number in sorted(set(turns_of(first) + turns_of(second))):
        if table_of(first, number) != table_of(second, number):
            return number
    return None


def alike_in_all(first, second):
    """True if the pieces are alike in all surroundings, otherwise False."""
    return least_difference(first, second) is None


def telling(first, second):
    """A pair (surrounding, wish) that is granted with one of the pieces alone; None if there is none."""
    light = least_difference(first, second)
    if light is None:
        return None
    lit, links = table_of(first, light)
    other_lit, other_links = table_of(second, light)
    lamps = sorted(set(lit) ^ set(other_lit))
    if lamps:
        # A lamp that is lit in one piece alone gets the light in this one, with nothing around it.
        return (Piece(border_world(first), first.border), wish_for(first, light, [lamps[0]]))
    # Of a pair that is linked in one piece alone one lamp is not lit; the other one gets the light from outside.
    pair = sorted(set(links) ^ set(other_links))[0]
    taker = [lamp for lamp in pair if lamp not in lit][0]
    giver = [lamp for lamp in pair if lamp != taker][0]
    return (lit_from_outside(first, second, giver, light), wish_for(first, light, [taker, giver]))


def border_world(piece):
    """The world of the border lamps of the piece alone, without bonds."""
    rows = piece.border_rows
    return World(Web([(lamp, ceiling) for lamp, _, ceiling in rows]), {lamp: light for lamp, light, _ in rows})


def lit_from_outside(first, second, giver, light):
    """The surrounding in which the border lamp has a bond with an inner lamp of this light."""
    world = border_world(first)
    spring = fresh_name(first.world.web.lamps + second.world.web.lamps)
    bond = fresh_name(first.world.web.bonds + second.world.web.bonds)
    web = Web(world.web.lamp_rows + [(spring, None)], [(bond, giver, spring, None, None)])
    return Piece(World(web, {**world.lights, spring: light}), first.border)


def wish_for(piece, light, lamps):
    """The wish that the first of the lamps takes the light, and that no other border lamp but these does."""
    field = field_lamps(piece.world, free_caps_of(piece.world), light)
    wish = {}
    for lamp in takers_of(piece, field, light):
        if lamp == lamps[0]:
            wish[lamp] = light
        elif lamp not in lamps:
            wish[lamp] = piece.world.light(lamp)
    return wish


def is_telling(first, second, surrounding, wish):
    """True if the surrounding and the wish show a difference of the two pieces, otherwise False."""
    check_fit(first, second)
    for lamp in wish:
        if lamp not in surrounding.world.web or not is_number(wish[lamp]):
            return False
    left = glued_or_none(first, surrounding)
    right = glued_or_none(second, surrounding)
    if left is None or right is None:
        return False
    return granted(left, wish) != granted(right, wish)


def glued_or_none(piece, surrounding):
    """The World of the piece with the surrounding; None if they cannot be glued."""
    try:
        return glue(piece, surrounding)
    except OutshinerError:
        return None


def smaller(piece):
    """The Piece that is left when all that can be is removed, one inner lamp or bond after another."""
    left = piece
    for lamp in piece.inner:
        if len(left.world.web.lamps) > 1 and alike_in_all(left.without_lamp(lamp), piece):
            left = left.without_lamp(lamp)
    bonds = left.world.web.bonds
    for bond in bonds:
        if alike_in_all(left.without_bond(bond), piece):
            left = left.without_bond(bond)
    return left


def is_tight(piece):
    """True if nothing can be removed without a difference in some surrounding, otherwise False."""
    web = piece.world.web
    lamps = piece.inner if len(web.lamps) > 1 else []
    removed = [piece.without_lamp(lamp) for lamp in lamps] + [piece.without_bond(bond) for bond in web.bonds]
    return not any([alike_in_all(part, piece) for part in removed])
