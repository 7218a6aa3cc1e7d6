"""Changes of a house: each tells another house, and leaves the one handed in as it is."""

from orderkeep.steps import without_wants_of
from orderkeep.trees import children, knot_of
from orderkeep.views import wanted


def with_row(house, knot, row):
    knots = [(knot, tuple(row)) if held[0] == knot else held for held in house[0]]
    return (tuple(knots), house[1], house[2], house[3])


def with_thing(house, name, knot):
    row = children(house, knot)
    last = wanted(house, row, "last")
    others = [child for child in row if child not in last]
    return with_row(house, knot, others + [name] + last)


def with_tie(house, tie):
    return (house[0], house[1] + (tie,), without(house[2], tie), house[3])


def with_waiting(house, tie):
    return (house[0], house[1], house[2] + (tie,), house[3])


def with_want(house, want):
    return (house[0], house[1], house[2], house[3] + (want,))


def with_group(house, name, members):
    # The group comes behind all others of the knot: whoever calls this tells how they are to stand.
    knot = knot_of(house, members[0])
    row = children(house, knot)
    inner = tuple([child for child in row if child in members])
    others = [child for child in row if child not in members]
    left = with_row(house, knot, others + [name])
    return (left[0] + ((name, inner),), left[1], left[2], left[3])


def gone(house, deed):
    if deed[0] == "untie":
        return (house[0], without(house[1], deed[1:]), without(house[2], deed[1:]), house[3])
    if deed[0] == "unwant":
        return (house[0], house[1], house[2], without(house[3], deed[1:]))
    return without_unit(house, deed[1])


def without_unit(house, unit):
    # Drop and open alike: what is dropped has no children to take its place.
    inner = list(dict(house[0]).get(unit, ()))
    knot = knot_of(house, unit)
    row = children(house, knot)
    place = row.index(unit)
    left = without_wants_of(with_row(house, knot, row[:place] + inner + row[place + 1:]), [unit] + inner)
    knots = [held for held in left[0] if held[0] != unit]
    return (tuple(knots), not_naming(left[1], unit), not_naming(left[2], unit), left[3])


def without(some, one):
    return tuple([other for other in some if other != one])


def not_naming(ties, unit):
    return tuple([tie for tie in ties if unit not in tie])
