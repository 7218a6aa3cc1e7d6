"""Layers of a web: as few as its longest way has things."""

from orderkeep.depths import deepest, depths


def layers(web):
    # Where each thing weighs one, a depth counts the things of the longest way to there.
    return [depth - 1 for depth in depths(web, ones(web))]


def longest(web):
    found = deepest(web, ones(web))
    if found is None:
        return []
    return found[1]


def ones(web):
    return [1 for thing in web[0]]
