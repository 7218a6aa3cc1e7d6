"""Views: the web that a knot's children make."""

from orderkeep.trees import children, homes, parting_by
from orderkeep.webs import places_of


def view(house, knot):
    return view_by(house, knot, kept_partings(house))


def kept_partings(house):
    table = homes(house)
    return [parting_by(table, tie[0], tie[1]) for tie in house[1]]


def view_by(house, knot, partings):
    row = children(house, knot)
    pairs = [(part[1], part[2]) for part in partings if part[0] == knot]
    for unit in wanted(house, row, "first"):
        pairs.extend([(unit, child) for child in row if child != unit])
    for unit in wanted(house, row, "last"):
        pairs.extend([(child, unit) for child in row if child != unit])
    # A dict keeps each pair once, where it comes first.
    return (tuple(row), tuple(places_of(pairs)))


def wanted(house, row, word):
    return [child for child in row if (word, child) in house[3]]
