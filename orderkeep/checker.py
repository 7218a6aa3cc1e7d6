"""Papers looked through: whether a paper is let by for a house and a deed, and to which house it leads."""

from orderkeep.changes import gone, with_group, with_row, with_thing, with_tie, with_waiting, with_want
from orderkeep.errors import OrderError
from orderkeep.forms import is_single
from orderkeep.moves import lets_moves, moved
from orderkeep.orders import is_order
from orderkeep.refusals import refuse
from orderkeep.steps import is_group_ring, is_tie_ring, is_want_ring
from orderkeep.trees import children, knot_of, parting
from orderkeep.views import view


def lets_by(house, deed, paper):
    if not is_single(deed) or not isinstance(paper, list) or is_refused(house, deed):
        return False
    if deed[0] in ("tie", "wait"):
        return len(paper) == 1 and lets_row(house, deed[1:], paper[0])
    if deed[0] == "want":
        return lets_want(house, deed, paper)
    if deed[0] == "group":
        return lets_group(house, deed, paper)
    if lets_none_in(house, deed):
        return len(paper) == 0
    return lets_rows(gone(house, deed), paper)


def led_to(house, deed, paper):
    if deed[0] == "thing":
        return with_thing(house, deed[1], deed[2])
    if deed[0] in ("tie", "wait"):
        return led_by_tie(house, deed, paper[0])
    if deed[0] == "want":
        return led_by_want(house, deed, paper[0])
    if deed[0] == "group":
        return led_by_group(house, deed, paper)
    return led_by_rows(gone(house, deed), paper)


def is_refused(house, deed):
    try:
        refuse(house, deed)
    except OrderError:
        return True
    return False


def lets_none_in(house, deed):
    return deed[0] == "thing" or deed[0] == "untie" and deed[1:] in house[2]


def is_row(row, head):
    # Texts first: other things may say of themselves that they are equal to a text.
    if not isinstance(row, tuple) or not all([isinstance(word, str) for word in row[:-1]]):
        return False
    return row[:-1] == head


def lets_row(house, tie, row):
    if is_row(row, ("ring", tie[0], tie[1])):
        return is_tie_ring(house, tie[0], tie[1], row[3])
    if not is_row(row, ("lay", tie[0], tie[1])):
        return False
    part = parting(house, tie[0], tie[1])
    return lets_moves(view(house, part[0]), children(house, part[0]), part[1], part[2], row[3])


def lets_rows(house, rows):
    if len(rows) != len(house[2]):
        return False
    left = house
    for tie, row in zip(house[2], rows):
        if not lets_row(left, tie, row):
            return False
        left = led_by_row(left, row)
    return True


def lets_want(house, deed, paper):
    if len(paper) != 1:
        return False
    if is_row(paper[0], ("bar",)):
        return is_want_ring(house, deed[1], deed[2], paper[0][1])
    web = view(with_want(house, deed[1:]), knot_of(house, deed[2]))
    return is_row(paper[0], ("place",)) and is_order(web, paper[0][1])


def lets_group(house, deed, paper):
    if len(paper) == 0:
        return False
    if is_row(paper[0], ("bar",)):
        return len(paper) == 1 and is_group_ring(house, deed[2], paper[0][1])
    knot = knot_of(house, deed[2][0])
    grouped = with_group(house, deed[1], deed[2])
    if not is_row(paper[0], ("place",)) or not is_order(view(grouped, knot), paper[0][1]):
        return False
    return lets_rows(with_row(grouped, knot, paper[0][1]), paper[1:])


def led_by_row(house, row):
    if row[0] == "ring":
        return house
    knot = parting(house, row[1], row[2])[0]
    laid = with_row(house, knot, moved(children(house, knot), row[3]))
    return with_tie(laid, (row[1], row[2]))


def led_by_rows(house, rows):
    left = house
    for row in rows:
        left = led_by_row(left, row)
    return left


def led_by_tie(house, deed, row):
    if deed[0] == "wait" and row[0] == "ring":
        return with_waiting(house, deed[1:])
    return led_by_row(house, row)


def led_by_want(house, deed, row):
    if row[0] == "bar":
        return house
    return with_want(with_row(house, knot_of(house, deed[2]), row[1]), deed[1:])


def led_by_group(house, deed, paper):
    if paper[0][0] == "bar":
        return house
    grouped = with_group(house, deed[1], deed[2])
    return led_by_rows(with_row(grouped, knot_of(house, deed[2][0]), paper[0][1]), paper[1:])
