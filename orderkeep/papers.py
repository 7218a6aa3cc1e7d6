"""Papers told: of a deed, what it moves and places, or the ring that bars it."""

from orderkeep.changes import gone, with_group, with_row
from orderkeep.checker import led_by_row, lets_none_in
from orderkeep.errors import NoDeed
from orderkeep.forms import is_single
from orderkeep.moves import moves_of
from orderkeep.reach import nexts_of_all, steps_from
from orderkeep.refusals import refuse
from orderkeep.steps import ring_of_group, ring_of_tie, ring_of_want, without_wants_of
from orderkeep.trees import children, knot_of, parting
from orderkeep.views import view


def paper_of(house, deed):
    if not is_single(deed):
        raise NoDeed("there is a paper of one deed alone, and of no many")
    refuse(house, deed)
    if deed[0] in ("tie", "wait"):
        return [row_of_tie(house, deed[1], deed[2])]
    if deed[0] == "want":
        return [row_of_want(house, deed[1], deed[2])]
    if deed[0] == "group":
        return rows_of_group(house, deed[1], deed[2])
    if lets_none_in(house, deed):
        return []
    return rows_of_waiting(gone(house, deed))


def row_of_tie(house, one, other):
    ring = ring_of_tie(house, one, other)
    if ring is not None:
        return ("ring", one, other, ring)
    part = parting(house, one, other)
    return ("lay", one, other, moves_of(view(house, part[0]), children(house, part[0]), part[1], part[2]))


def rows_of_waiting(house):
    rows = []
    left = house
    for tie in house[2]:
        row = row_of_tie(left, tie[0], tie[1])
        left = led_by_row(left, row)
        rows.append(row)
    return rows


def row_of_want(house, word, one):
    ring = ring_of_want(house, word, one)
    if ring is not None:
        return ("bar", ring)
    others = [child for child in children(house, knot_of(house, one)) if child != one]
    return ("place", [one] + others if word == "first" else others + [one])


def rows_of_group(house, name, members):
    ring = ring_of_group(house, members)
    if ring is not None:
        return [("bar", ring)]
    order = order_with_group(house, name, members)
    grouped = with_row(with_group(house, name, members), knot_of(house, members[0]), order)
    return [("place", order)] + rows_of_waiting(grouped)


def order_with_group(house, name, members):
    knot = knot_of(house, members[0])
    row = children(house, knot)
    places = [place for place, child in enumerate(row) if child in members]
    between = [child for child in row[places[0]:places[-1]] if child not in members]
    reached = steps_from(nexts_of_all(view(without_wants_of(house, members), knot)), members)
    ahead = [child for child in between if child not in reached]
    follow = [child for child in between if child in reached]
    return row[:places[0]] + ahead + [name] + follow + row[places[-1] + 1:]
