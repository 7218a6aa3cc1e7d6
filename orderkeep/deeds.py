"""Deeds, which lead from a house to a house."""

from orderkeep.checker import led_to
from orderkeep.errors import NoDeed, Ring
from orderkeep.forms import is_many, is_single
from orderkeep.papers import paper_of

MOST_MANY = 2


def is_deed(thing):
    return is_deed_within(thing, MOST_MANY)


def behind(house, deed):
    if not is_deed(deed):
        raise NoDeed("what is handed in is no deed")
    left = house
    for single in singles(deed):
        left = behind_single(left, single)
    return left


def is_deed_within(thing, many):
    if not is_many(thing):
        return is_single(thing)
    return many > 0 and all([is_deed_within(deed, many - 1) for deed in thing[1]])


def singles(deed):
    if deed[0] != "many":
        return [deed]
    told = []
    for part in deed[1]:
        told.extend(singles(part))
    return told


def behind_single(house, deed):
    # One way to do a deed alone: by its paper, so that the two never differ.
    paper = paper_of(house, deed)
    # Of a wait, and behind what goes, a ring bars nothing: the tie waits.
    if deed[0] in ("tie", "want", "group") and paper[0][0] in ("ring", "bar"):
        raise Ring(paper[0][-1])
    return led_to(house, deed, paper)
