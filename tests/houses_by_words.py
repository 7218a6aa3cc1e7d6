"""Plain readings of what the document says of houses, to hold the program against; and houses made from a seed."""

import random
from itertools import permutations, product

from tests.samples import many_names, plain_way


def units_of(house):
    return [unit for name, row in house[0] for unit in row]


def lies_within(house, one, other):
    """Whether one lies within other, by the words: it is it, or stands in a unit that does."""
    if one == other:
        return True
    home = [name for name, row in house[0] if one in row][0]
    return home != "" and lies_within(house, home, other)


def plain_parting(house, one, other):
    """By the words: the knots, and two unlike children of them, within which the two lie."""
    return [(name, first, second) for name, row in house[0] for first, second in product(row, repeat=2)
            if first != second and lies_within(house, one, first) and lies_within(house, other, second)]


def plain_view(house, knot):
    row = dict(house[0])[knot]
    pairs = [part[1:] for tie in house[1] for part in plain_parting(house, *tie) if part[0] == knot]
    pairs += [(unit, child) for word, unit in house[3] for child in row
              if word == "first" and unit in row and child != unit]
    pairs += [(child, unit) for word, unit in house[3] for child in row
              if word == "last" and unit in row and child != unit]
    return (row, tuple(pair for place, pair in enumerate(pairs) if pair not in pairs[:place]))


def reaches(web, one, other):
    found = [one]
    for thing in found:
        found += [end for start, end in web[1] if start == thing and end not in found]
    return other in found


def is_good_by_words(house):
    """Whether a house, be it good or not, is good."""
    for name, row in house[0]:
        if any(row.index(one) >= row.index(other) for one, other in plain_view(house, name)[1]):
            return False
    return all(reaches(plain_view(house, knot), second, first)
               for tie in house[2] for knot, first, second in plain_parting(house, *tie))


def free_pairs(house):
    """All pairs of units of which neither lies within the other."""
    return [pair for pair in product(units_of(house), repeat=2) if plain_parting(house, *pair)]


def free_wants(house):
    """All wants that are not told twice: the unit has none, and no child of its knot has this word."""
    return [(word, unit) for word in ("first", "last") for name, row in house[0] for unit in row
            if unit not in [other for some, other in house[3]]
            and not any((word, child) in house[3] for child in row)]


def all_steps(house):
    """Each step of a house, be it the first such or not, with its knot and the children where it begins and ends."""
    steps = {("tie", *tie): plain_parting(house, *tie)[0] for tie in house[1]}
    for word, unit in house[3]:
        steps.update(steps_of_want(house, word, unit))
    return steps


def steps_of_want(house, word, unit):
    name, row = [(name, row) for name, row in house[0] if unit in row][0]
    pairs = [(unit, child) if word == "first" else (child, unit) for child in row if child != unit]
    return {(word, *pair): (name, *pair) for pair in pairs}


def plain_step(house, knot, first, second):
    ties = [("tie", *tie) for tie in house[1] if plain_parting(house, *tie) == [(knot, first, second)]]
    if ties:
        return ties[0]
    return ("first" if ("first", first) in house[3] else "last", first, second)


def plain_steps(house, knot, row):
    return [plain_step(house, knot, *pair) for pair in zip(row, row[1:])]


def plain_ring_of_tie(house, one, other):
    knot, first, second = plain_parting(house, one, other)[0]
    back = plain_way(plain_view(house, knot), second, first)
    return None if back is None else [("tie", one, other)] + plain_steps(house, knot, back)


def plain_ring_of_want(house, word, unit):
    knot, row = [(name, row) for name, row in house[0] if unit in row][0]
    ties = plain_view(house, knot)[1]
    for child in row:
        if word == "first" and (child, unit) in ties:
            return [(word, unit, child), plain_step(house, knot, child, unit)]
        if word == "last" and (unit, child) in ties:
            return [(word, child, unit), plain_step(house, knot, unit, child)]
    return None


def left_out(house, members):
    """The house without the wants of members."""
    return house[:3] + (tuple(want for want in house[3] if want[1] not in members),)


def plain_ring_of_group(house, members):
    knot, row = [(name, row) for name, row in house[0] if members[0] in row][0]
    house = left_out(house, members)
    ties = plain_view(house, knot)[1]
    others = [child for child in row if child not in members]
    for count in range(1, len(others) + 1):
        ends = list(product(members, repeat=2))
        ways = [(one, *some, other) for one, other in ends for some in permutations(others, count)]
        ways = [way for way in ways if all(pair in ties for pair in zip(way, way[1:]))]
        if ways:
            return plain_steps(house, knot, min(ways, key=lambda way: [row.index(child) for child in way]))
    return None


def closes_by_words(parts):
    return (len({part[0] for part in parts}) == 1 and all(a[2] == b[1] for a, b in zip(parts, parts[1:]))
            and len({part[1] for part in parts}) == len(parts))


def is_tie_ring_by_words(house, one, other, ring):
    """Of a list of tuples of three texts."""
    steps = all_steps(house)
    if len(ring) < 2 or ring[0] != ("tie", one, other) or any(step not in steps for step in ring[1:]):
        return False
    parts = plain_parting(house, one, other) + [steps[step] for step in ring[1:]]
    return closes_by_words(parts) and parts[-1][2] == parts[0][1]


def is_want_ring_by_words(house, word, unit, ring):
    steps, firsts = all_steps(house), steps_of_want(house, word, unit)
    if len(ring) < 2 or ring[0] not in firsts or any(step not in steps for step in ring[1:]):
        return False
    parts = [firsts[ring[0]]] + [steps[step] for step in ring[1:]]
    return closes_by_words(parts) and parts[-1][2] == parts[0][1]


def is_group_ring_by_words(house, members, ring):
    steps = all_steps(left_out(house, members))
    row = [row for name, row in house[0] if members[0] in row][0]
    if len(ring) < 2 or any(step not in steps for step in ring):
        return False
    parts = [steps[step] for step in ring]
    return (closes_by_words(parts) and parts[0][1] in row and parts[0][1] in members and parts[-1][2] in members
            and not any(part[1] in members for part in parts[1:]))


def made_tree(chance, names):
    knots, depths = {"": []}, {"": 0}
    for name in names:
        home = chance.choice(list(knots))
        knots[home].insert(chance.randint(0, len(knots[home])), name)
        if depths[home] < 6 and chance.random() < 0.25:
            knots[name] = []
            depths[name] = depths[home] + 1
    return tuple((name, tuple(row)) for name, row in knots.items())


def made_wants(chance, knots):
    wants = []
    for name, row in knots:
        if row and chance.random() < 0.4:
            wants.append(("first", row[0]))
        if row and ("first", row[-1]) not in wants and chance.random() < 0.4:
            wants.append(("last", row[-1]))
    chance.shuffle(wants)
    return tuple(wants)


def made_house(chance, count):
    """A good house: ties go forward where they part, and those that wait would close a ring."""
    names = many_names(count)
    chance.shuffle(names)
    knots = made_tree(chance, names)
    house = (knots, (), (), made_wants(chance, knots))
    ahead, back = [], []
    for pair in free_pairs(house):
        knot, first, second = plain_parting(house, *pair)[0]
        row = dict(knots)[knot]
        (ahead if row.index(first) < row.index(second) else back).append(pair)
    kept = chance.sample(ahead, min(len(ahead), chance.randint(0, count + 1)))
    house = (knots, tuple(kept), (), house[3])
    closing = [pair for pair in back if plain_ring_of_tie(house, *pair) is not None]
    waiting = chance.sample(closing, min(len(closing), chance.randint(0, 3)))
    return (knots, tuple(kept), tuple(waiting), house[3])


def made_houses(number):
    """Good houses of up to seven units, the same ones each time."""
    chance = random.Random(6)
    return [made_house(chance, chance.randint(0, 7)) for turn in range(number)]
