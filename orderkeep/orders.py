"""Orders of a web, in which every tie goes forward."""

from orderkeep.reach import priors_of_all
from orderkeep.rings import refuse_ring
from orderkeep.webs import lists_things, places_of


def is_order(web, thing):
    if not lists_things(web, thing):
        return False
    places = places_of(thing)
    if len(thing) != len(web[0]) or len(places) != len(web[0]):
        return False
    return all([places[tie[0]] < places[tie[1]] for tie in web[1]])


def order_anew(web):
    refuse_ring(web)
    table = priors_of_all(web)
    told = {}
    while len(told) < len(table):
        free = [thing for thing in table if is_due(thing, table, told)]
        told[free[0]] = True
    return list(told)


def is_due(thing, table, told):
    return thing not in told and all([prior in told for prior in table[thing]])


def unlike(web, one, other):
    places = places_of(other)
    pairs = []
    for place, ahead in enumerate(one):
        for follower in one[place + 1:]:
            if places[follower] < places[ahead]:
                pairs.append((ahead, follower))
    return pairs
