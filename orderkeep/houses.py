"""Houses: groups within groups, of which each keeps its ties."""

from orderkeep.errors import NoHouse
from orderkeep.frames import is_frame
from orderkeep.orders import is_order
from orderkeep.reach import nexts_of_all, steps_from
from orderkeep.trees import parting, read_down
from orderkeep.views import kept_partings, view, view_by

EMPTY = ((("", ()),), (), (), ())


def house_of(knots, ties, waiting, wants):
    parts = [knots, ties, waiting, wants]
    if not all([isinstance(part, (list, tuple)) for part in parts]):
        raise NoHouse("a house is made of four lists or tuples")
    house = tuple([tuple(part) for part in parts])
    if not is_house(house):
        raise NoHouse("what is handed in is no good house")
    return house


def is_house(thing):
    return is_frame(thing) and keeps_ties(thing) and keeps_waiting(thing)


def whole_order(house):
    knots = dict(house[0])
    return [unit for unit in read_down(knots, "") if unit not in knots]


def keeps_ties(house):
    partings = kept_partings(house)
    return all([is_order(view_by(house, knot[0], partings), list(knot[1])) for knot in house[0]])


def keeps_waiting(house):
    tables = {}
    for tie in house[2]:
        part = parting(house, tie[0], tie[1])
        if part[0] not in tables:
            tables[part[0]] = nexts_of_all(view(house, part[0]))
        if part[1] not in steps_from(tables[part[0]], [part[2]]):
            return False
    return True
