"""Rings told in steps: of a tie, of a want, of members of a group; and whether a thing is such a ring."""

from orderkeep.reach import first_nearer, priors_of_all, steps_from
from orderkeep.rings import ring_by
from orderkeep.trees import children, knot_of, parting
from orderkeep.views import kept_partings, view
from orderkeep.webs import are_unlike, nexts, places_of, priors


def ring_of_tie(house, one, other):
    part = parting(house, one, other)
    ring = ring_by(view(house, part[0]), part[1], part[2])
    if ring is None:
        return None
    return [("tie", one, other)] + steps_along(house, part[0], ring[1:] + ring[:1])


def ring_of_want(house, word, one):
    knot = knot_of(house, one)
    web = view(house, knot)
    found = priors(web, one) if word == "first" else nexts(web, one)
    if len(found) == 0:
        return None
    if word == "first":
        return [("first", one, found[0])] + steps_along(house, knot, [found[0], one])
    return [("last", found[0], one)] + steps_along(house, knot, [one, found[0]])


def ring_of_group(house, members):
    knot = knot_of(house, members[0])
    rest = without_wants_of(house, members)
    row = way_between(view(rest, knot), members)
    if row is None:
        return None
    return steps_along(rest, knot, row)


def is_tie_ring(house, one, other, ring):
    if not are_steps(ring) or ring[0] != ("tie", one, other):
        return False
    parts = [parting(house, one, other)] + [part_of(house, step) for step in ring[1:]]
    return is_closed(parts)


def is_want_ring(house, word, one, ring):
    if not are_steps(ring) or ring[0][0] != word or wanting(ring[0]) != one:
        return False
    parts = [part_of_want(house, ring[0])] + [part_of(house, step) for step in ring[1:]]
    return is_closed(parts)


def is_group_ring(house, members, ring):
    if not are_steps(ring):
        return False
    rest = without_wants_of(house, members)
    parts = [part_of(rest, step) for step in ring]
    if not is_line(parts) or parts[0][0] != knot_of(house, members[0]):
        return False
    if parts[0][1] not in members or parts[-1][2] not in members:
        return False
    return not any([part[1] in members for part in parts[1:]])


def steps_along(house, knot, row):
    partings = kept_partings(house)
    return [step_of(house, partings, (knot, pair[0], pair[1])) for pair in zip(row, row[1:])]


def step_of(house, partings, part):
    for tie, found in zip(house[1], partings):
        if found == part:
            return ("tie", tie[0], tie[1])
    word = "first" if ("first", part[1]) in house[3] else "last"
    return (word, part[1], part[2])


def without_wants_of(house, members):
    wants = [want for want in house[3] if want[1] not in members]
    return (house[0], house[1], house[2], tuple(wants))


def way_between(web, members):
    # All members stand at 0, so that the fewest steps left to one lead over none.
    left = steps_from(priors_of_all(web), members)
    leaving = [tie for tie in web[1] if tie[0] in members and tie[1] not in members]
    starts = [tie for tie in leaving if tie[1] in left]
    if len(starts) == 0:
        return None
    places = places_of(web[0])
    row = list(min(starts, key=lambda tie: (left[tie[1]], places[tie[0]], places[tie[1]])))
    while row[-1] not in members:
        row.append(first_nearer(web, row[-1], left))
    return row


def are_steps(ring):
    if not isinstance(ring, list) or len(ring) < 2:
        return False
    return all([is_step(step) for step in ring])


def is_step(step):
    if not isinstance(step, tuple) or len(step) != 3:
        return False
    return all([isinstance(word, str) for word in step])


def part_of(house, step):
    if step[0] == "tie" and (step[1], step[2]) in house[1]:
        return parting(house, step[1], step[2])
    if (step[0], wanting(step)) in house[3]:
        return part_of_want(house, step)
    return None


def wanting(step):
    return step[1] if step[0] == "first" else step[2]


def part_of_want(house, step):
    knot = knot_of(house, wanting(step))
    row = children(house, knot)
    if step[1] == step[2] or step[1] not in row or step[2] not in row:
        return None
    return (knot, step[1], step[2])


def is_closed(parts):
    return is_line(parts) and parts[-1][2] == parts[0][1]


def is_line(parts):
    if None in parts or len(set([part[0] for part in parts])) != 1:
        return False
    if not all([pair[0][2] == pair[1][1] for pair in zip(parts, parts[1:])]):
        return False
    return are_unlike([part[1] for part in parts])
