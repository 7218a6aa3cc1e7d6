"""Depths: how much the heaviest ways weigh, and what shows that none weighs more."""

from orderkeep.errors import NoWeights
from orderkeep.hanging import is_way
from orderkeep.names import is_whole
from orderkeep.orders import order_anew
from orderkeep.reach import priors_of_all
from orderkeep.rings import refuse_ring
from orderkeep.webs import lists_things, priors


def depths(web, weights):
    return by_places(web, depths_by_thing(web, weights_by_thing(web, weights)))


def deepest(web, weights):
    found = depths_by_thing(web, weights_by_thing(web, weights))
    if len(found) == 0:
        return None
    last = deepest_among(web[0], found)
    return (found[last], way_back(web, found, last), by_places(web, found))


def shows_deepest(web, weights, told):
    weighed = weights_by_thing(web, weights)
    if len(weighed) == 0:
        return told is None
    if not isinstance(told, tuple) or len(told) != 3 or not is_whole(told[0]):
        return False
    return way_weighs(web, weighed, told[1], told[0]) and are_bounds(web, weighed, told[2], told[0])


def weights_by_thing(web, weights):
    # Ring is due ahead of NoWeights.
    refuse_ring(web)
    if not isinstance(weights, (list, tuple)) or not are_wholes(web, weights):
        raise NoWeights("the weights are no list or tuple of whole numbers, one for each thing")
    return dict(zip(web[0], weights))


def are_wholes(web, numbers):
    return len(numbers) == len(web[0]) and all([is_whole(number) for number in numbers])


def by_places(web, found):
    return [found[thing] for thing in web[0]]


def depths_by_thing(web, weighed):
    table = priors_of_all(web)
    found = {}
    for thing in order_anew(web):
        # A way may begin with the thing itself, so priors of a depth below 0 add nothing.
        found[thing] = weighed[thing] + max([0] + [found[prior] for prior in table[thing]])
    return found


def deepest_among(things, found):
    return max(things, key=lambda thing: found[thing])


def way_back(web, found, last):
    told = [last]
    worth = worth_taking(web, found, last)
    while len(worth) > 0:
        told.append(deepest_among(worth, found))
        worth = worth_taking(web, found, told[-1])
    told.reverse()
    return told


def worth_taking(web, found, thing):
    return [prior for prior in priors(web, thing) if found[prior] > 0]


def way_weighs(web, weighed, things, weight):
    if not lists_things(web, things) or len(things) == 0:
        return False
    if not is_way(web, things[0], things[-1], things):
        return False
    return sum([weighed[thing] for thing in things]) == weight


def are_bounds(web, weighed, bounds, most):
    if not isinstance(bounds, list) or not are_wholes(web, bounds):
        return False
    bound = dict(zip(web[0], bounds))
    if not all([weighed[thing] <= bound[thing] <= most for thing in web[0]]):
        return False
    return all([bound[tie[0]] + weighed[tie[1]] <= bound[tie[1]] for tie in web[1]])
