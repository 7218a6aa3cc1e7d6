"""The frame of a house, be the house good or not: knots, ties and wants that fit together."""

from orderkeep.names import is_name
from orderkeep.trees import homes, parting_by
from orderkeep.webs import are_unlike, is_tie_among

MOST_UNITS = 60
MOST_WITHIN = 6
MOST_TIES = 200
WORDS = ("first", "last")


def is_frame(thing):
    if not isinstance(thing, tuple) or len(thing) != 4:
        return False
    if not all([isinstance(part, tuple) for part in thing]) or not are_knots(thing[0]):
        return False
    table = homes(thing)
    if not all([is_below_top(table, knot[0]) for knot in thing[0][1:]]):
        return False
    return are_house_ties(table, thing[1] + thing[2]) and are_wants(table, thing[3])


def are_knots(knots):
    if len(knots) == 0 or not all([is_knot(knot) for knot in knots]):
        return False
    groups = [knot[0] for knot in knots[1:]]
    if knots[0][0] != "" or not all([is_name(group) for group in groups]):
        return False
    units = units_in(knots)
    return len(units) <= MOST_UNITS and are_unlike(units) and are_unlike(groups)


def is_knot(knot):
    if not isinstance(knot, tuple) or len(knot) != 2:
        return False
    if not isinstance(knot[0], str) or not isinstance(knot[1], tuple):
        return False
    return all([is_name(child) for child in knot[1]])


def units_in(knots):
    units = []
    for knot in knots:
        units.extend(knot[1])
    return units


def is_below_top(table, group):
    # No more steps than groups may stand one within another: so groups that lie in one another come to an end too.
    knot = group
    for turn in range(MOST_WITHIN):
        if knot not in table:
            return False
        knot = table[knot]
        if knot == "":
            return True
    return False


def are_house_ties(table, ties):
    if len(ties) > MOST_TIES or not all([is_tie_among(table, tie) for tie in ties]):
        return False
    return are_unlike(ties) and all([parting_by(table, tie[0], tie[1]) is not None for tie in ties])


def are_wants(table, wants):
    if not all([is_want(table, want) for want in wants]):
        return False
    units = [want[1] for want in wants]
    return are_unlike(units) and are_unlike([(want[0], table[want[1]]) for want in wants])


def is_want(table, want):
    if not isinstance(want, tuple) or len(want) != 2:
        return False
    if not isinstance(want[0], str) or want[0] not in WORDS:
        return False
    return is_name(want[1]) and want[1] in table
