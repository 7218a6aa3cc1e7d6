"""A house called otherwise."""

from orderkeep.errors import Clash
from orderkeep.frames import units_in
from orderkeep.names import is_name
from orderkeep.webs import are_unlike


def called(house, names):
    if not all([is_name(pair[0]) and is_name(pair[1]) for pair in names.items()]):
        raise Clash("a key or a value is no name")
    if not are_unlike(all_called(names, units_in(house[0]))):
        raise Clash("two unlike units would have one name")
    knots = [(names.get(knot[0], knot[0]), all_called(names, knot[1])) for knot in house[0]]
    ties = [all_called(names, tie) for tie in house[1]]
    waiting = [all_called(names, tie) for tie in house[2]]
    # A want's word is no name of a unit, even where the dict has it.
    wants = [(want[0], names.get(want[1], want[1])) for want in house[3]]
    return (tuple(knots), tuple(ties), tuple(waiting), tuple(wants))


def all_called(names, units):
    return tuple([names.get(unit, unit) for unit in units])
