"""The stretch of an order that a tie moves."""

from orderkeep.errors import Ring
from orderkeep.reach import aheads, behinds
from orderkeep.rings import ring_by
from orderkeep.webs import places_of


def stretch(web, order, one, other):
    places = places_of(order)
    if places[one] < places[other]:
        return ([], [])
    reached = places_of(behinds(web, other))
    if one in reached:
        raise Ring(ring_by(web, one, other))
    reaching = places_of(aheads(web, one))
    between = order[places[other]:places[one] + 1]
    back = [thing for thing in between if thing in reaching]
    forward = [thing for thing in between if thing in reached]
    return (back, forward)
