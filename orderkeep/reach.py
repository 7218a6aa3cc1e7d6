"""Ways through a web: what a thing reaches, and what reaches it."""

from orderkeep.webs import nexts, priors


def behinds(web, one):
    reached = steps_from(nexts_of_all(web), [one])
    return [thing for thing in web[0] if thing in reached]


def aheads(web, one):
    reaching = steps_from(priors_of_all(web), [one])
    return [thing for thing in web[0] if thing in reaching]


def way(web, one, other):
    left = steps_from(priors_of_all(web), [other])
    if one not in left:
        return None
    told = [one]
    while told[-1] != other:
        told.append(first_nearer(web, told[-1], left))
    return told


def first_nearer(web, thing, left):
    # Nexts come by places, so that the first of them makes the first way of the fewest things.
    nearer = [near for near in nexts(web, thing) if near in left and left[near] < left[thing]]
    return nearer[0]


def nexts_of_all(web):
    table = {}
    for thing in web[0]:
        table[thing] = nexts(web, thing)
    return table


def priors_of_all(web):
    table = {}
    for thing in web[0]:
        table[thing] = priors(web, thing)
    return table


def steps_from(table, starts):
    steps = {}
    for start in starts:
        steps[start] = 0
    edge = list(starts)
    while len(edge) > 0:
        further = []
        for thing in edge:
            for near in table[thing]:
                if near not in steps:
                    steps[near] = steps[thing] + 1
                    further.append(near)
        edge = further
    return steps
