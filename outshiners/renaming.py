"""New names for lamps and bonds, and new numbers for old ones (points 8 and 10)."""
from outshiners.checks import check_keys, check_unlike, look_up
from outshiners.faults import BadStretch
from outshiners.names import check_name
from outshiners.spans import check_number
from outshiners.webs import Web
from outshiners.worlds import World


def rename_web(web, lamps=None, bonds=None):
    """The Web with the new names; what has no key in the dicts keeps its name."""
    new_lamps, new_bonds = new_names(web, lamps or {}, bonds or {})
    lamp_rows = [(new_lamps[lamp], ceiling) for lamp, ceiling in web.lamp_rows]
    bond_rows = [
        (new_bonds[bond], new_lamps[first], new_lamps[second], low, high)
        for bond, first, second, low, high in web.bond_rows
    ]
    return Web(lamp_rows, bond_rows)


def rename_world(world, lamps=None, bonds=None):
    """The World over the renamed web, in which each lamp keeps its light."""
    new_web = rename_web(world.web, lamps, bonds)
    new_lamps, _ = new_names(world.web, lamps or {}, {})
    return World(new_web, {new_lamps[lamp]: light for lamp, light in world})


def new_names(web, lamps, bonds):
    """The pair of dicts from all lamps and from all bonds to their new names; raise what is wrong with them."""
    for table in (lamps, bonds):
        for old in sorted(table):
            check_name(table[old])
    new_lamps = {lamp: lamps.get(lamp, lamp) for lamp in web}
    new_bonds = {bond: bonds.get(bond, bond) for bond in web.bonds}
    check_unlike(list(new_lamps.values()))
    check_unlike(list(new_bonds.values()))
    check_keys(web, lamps)
    for bond in sorted(bonds):
        look_up(new_bonds, bond)
    return (new_lamps, new_bonds)


def numbers_of(world):
    """The ascending list of the numbers of the world without duplicates."""
    ceilings = [ceiling for _, ceiling in world.web.lamp_rows]
    lows = [row[3] for row in world.web.bond_rows]
    highs = [row[4] for row in world.web.bond_rows]
    numbers = [number for number in ceilings + lows + highs if number is not None]
    return sorted(set(list(world.row) + numbers))


def stretch(world, table):
    """The World, with its web, in which the dict's numbers stand in the place of the old ones."""
    for number in sorted(table):
        check_number(number)
        check_number(table[number])
    check_stretch(numbers_of(world), table)
    return replaced(world, table)


def check_stretch(numbers, table):
    """Raise BadStretch for the first of the ascending numbers that the dict does not make greater."""
    before = None
    for number in numbers:
        if number not in table or (before is not None and table[number] <= before):
            raise BadStretch(number)
        before = table[number]


def ranked(world):
    """The World in which each number is replaced by its place among the numbers of the world."""
    return replaced(world, {number: place for place, number in enumerate(numbers_of(world))})


def replaced(world, table):
    """The World, with its web, in which each number is the one that the dict gives; None stays None."""
    # The dict has no key None, so an end that is None is looked up as None.
    lamp_rows = [(lamp, table.get(ceiling)) for lamp, ceiling in world.web.lamp_rows]
    bond_rows = [
        (bond, first, second, table.get(low), table.get(high))
        for bond, first, second, low, high in world.web.bond_rows
    ]
    return World(Web(lamp_rows, bond_rows), {lamp: table[light] for lamp, light in world})
