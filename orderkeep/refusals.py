"""What refuses a deed that is no many: all but NoDeed, which is due ahead of it, and Ring, which is due behind it."""

from orderkeep.errors import Apart, Full, NoTie, NoUnit, NoWant, TooMany, Twice, Within
from orderkeep.frames import MOST_TIES, MOST_UNITS, MOST_WITHIN
from orderkeep.trees import children, homes, knot_of, line_down, parting, within
from orderkeep.views import wanted


def refuse(house, deed):
    REFUSALS[deed[0]](house, deed)


def refuse_thing(house, deed):
    need_new_name(house, deed[1])
    need_knot(house, deed[2])
    need_room(house)


def refuse_tie(house, deed):
    tie = deed[1:]
    need_units(house, tie)
    need_parting(house, tie)
    if tie in house[1] or tie in house[2]:
        raise Twice("the tie is kept or waits already")
    if len(house[1]) + len(house[2]) >= MOST_TIES:
        raise TooMany("there are as many ties as there may be")


def refuse_untie(house, deed):
    tie = deed[1:]
    need_units(house, tie)
    if tie not in house[1] and tie not in house[2]:
        raise NoTie("the tie is neither kept nor waits")


def refuse_drop(house, deed):
    need_units(house, deed[1:])
    if len(dict(house[0]).get(deed[1], ())) > 0:
        raise Full("the group has children")


def refuse_group(house, deed):
    need_new_name(house, deed[1])
    need_units(house, deed[2])
    need_one_knot(house, deed[2])
    need_room(house)
    if groups_with(house, deed[2]) > MOST_WITHIN:
        raise TooMany("there are as many groups one within another as there may be")


def refuse_open(house, deed):
    need_knot(house, deed[1])


def refuse_want(house, deed):
    need_units(house, deed[2:])
    if deed[2] in [want[1] for want in house[3]]:
        raise Twice("the unit is wanted already")
    if len(wanted(house, children(house, knot_of(house, deed[2])), deed[1])) > 0:
        raise Twice("another child of the knot is wanted so")


def refuse_unwant(house, deed):
    need_units(house, deed[2:])
    if deed[1:] not in house[3]:
        raise NoWant("the unit is not wanted so")


def need_new_name(house, name):
    if name in homes(house):
        raise Twice("a unit has the name already")


def need_units(house, names):
    table = homes(house)
    for name in names:
        if name not in table:
            raise NoUnit(name)


def need_knot(house, knot):
    if knot not in dict(house[0]):
        raise NoUnit(knot)


def need_parting(house, units):
    if parting(house, units[0], units[1]) is None:
        raise Within("one of the two lies within the other")


def need_one_knot(house, units):
    table = homes(house)
    if len(set([table[unit] for unit in units])) > 1:
        raise Apart("the units stand in several knots")


def need_room(house):
    if len(homes(house)) >= MOST_UNITS:
        raise TooMany("there are as many units as there may be")


def groups_with(house, members):
    # The new group comes to stand where the members do, and the groups within them one deeper than now.
    table = homes(house)
    knots = dict(house[0])
    counts = [len(line_down(table, members[0]))]
    for member in members:
        counts.extend([len(line_down(table, unit)) + 1 for unit in within(house, member) if unit in knots])
    return max(counts)


REFUSALS = {
    "thing": refuse_thing,
    "tie": refuse_tie,
    "wait": refuse_tie,
    "untie": refuse_untie,
    "drop": refuse_drop,
    "group": refuse_group,
    "open": refuse_open,
    "want": refuse_want,
    "unwant": refuse_unwant,
}
