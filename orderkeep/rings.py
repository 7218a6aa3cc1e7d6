"""Rings: ways that come back to where they began."""

from orderkeep.errors import Ring
from orderkeep.reach import nexts_of_all, steps_from, way


def ring_by(web, one, other):
    back = way(web, other, one)
    if back is None:
        return None
    return [one] + back[:-1]


def ring_of(web):
    table = nexts_of_all(web)
    reached = {}
    for thing in web[0]:
        reached[thing] = steps_from(table, [thing])
    for tie in web[1]:
        if tie[0] in reached[tie[1]]:
            return ring_by(web, tie[0], tie[1])
    return None


def refuse_ring(web):
    ring = ring_of(web)
    if ring is not None:
        raise Ring(ring)
