"""What several tests look at: strange things, great webs, all webs of a few things and their ways, a house."""

from itertools import combinations, permutations

LETTERS = "abcdefghijklmnopqrstuvwxyz"


class Odd:
    pass


class Same:
    """Equal to whatever it is held against, and yet no name, word or number."""

    def __eq__(self, other):
        return True

    def __hash__(self):
        return 0


def nested(depth):
    inner = "a"
    for turn in range(depth):
        inner = [inner] if turn % 2 else (inner,)
    return inner


def strange_things():
    """Things of other kinds than a name, a whole number, a list or a tuple of names."""
    return [
        None, True, False, 1.5, b"a", {}, {"a": "b"}, {"a"}, frozenset(["a"]), Odd(), Odd, Same(), len,
        [Same()], [[]], [()], [["a"]], ((),), (["a"],), [{}], [None], (None,), nested(20), nested(19),
    ]


def many_names(count):
    return [LETTERS[k // 26] + LETTERS[k % 26] for k in range(count)]


def forward_ties(names, count):
    """Ties that all go forward in names: a line through them, then others."""
    line = list(zip(names, names[1:]))
    return (line + [pair for pair in combinations(names, 2) if pair not in line])[:count]


def all_webs(names, loops):
    """Every web of these things whose ties stand by places, with loops or without."""
    ends = [(one, other) for one in names for other in names if loops or one != other]
    for bits in range(1 << len(ends)):
        yield (tuple(names), tuple(tie for k, tie in enumerate(ends) if bits >> k & 1))


def webs_without_ring(names):
    """Every web of these things that has an order; the ties stand from the last place to the first."""
    for things, ties in all_webs(names, False):
        if plain_orders((things, ties)):
            yield (things, ties[::-1])


def plain_orders(web):
    """All orders of a web, by the words."""
    return [list(some) for some in permutations(web[0])
            if all(some.index(one) < some.index(other) for one, other in web[1])]


def plain_ways(web):
    """All ways of a web without a ring: things told once at the most, each tied to the next."""
    return [list(some) for count in range(1, len(web[0]) + 1) for some in permutations(web[0], count)
            if all(pair in web[1] for pair in zip(some, some[1:]))]


def plain_way(web, one, other):
    """The told way by the words: of all lists of unlike things, the fewest first, then by places."""
    if one == other:
        return [one]
    between = [thing for thing in web[0] if thing not in (one, other)]
    for count in range(len(between) + 1):
        # permutations come in the order of places, as between does
        for some in permutations(between, count):
            found = [one, *some, other]
            if all(pair in web[1] for pair in zip(found, found[1:])):
                return found
    return None


def plain_moves_let(web, order, one, other, told):
    """Whether moves are let by, by the words: of a list of tuples of a thing and two whole numbers."""
    things = [thing for thing, old, new in told]
    if len(set(things)) != len(things):
        return False
    if any(old not in range(len(order)) or order[old] != thing for thing, old, new in told):
        return False
    if sorted(old for thing, old, new in told) != sorted(new for thing, old, new in told):
        return False
    at = {thing: place for place, thing in enumerate(order)}
    at.update({thing: new for thing, old, new in told})
    ties = [tie for tie in web[1] if set(tie) & set(things)] + [(one, other)]
    return all(at[start] < at[end] for start, end in ties)


def deep_knots():
    """Six groups, one within another, each with a thing ahead and one behind; and a group without children."""
    groups = ["ga", "gb", "gc", "gd", "ge", "gf"]
    knots = [("", ("bare", "xa", "ga", "ya"))]
    for depth, group in enumerate(groups):
        inner = groups[depth + 1:depth + 2]
        letter = LETTERS[depth + 1]
        knots.append((group, ("x" + letter, *inner, "y" + letter)))
    # Knots may stand in any order behind the top.
    return (knots[0], ("bare", ()), *knots[:0:-1])
