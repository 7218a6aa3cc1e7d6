"""What several tests look at: strange things, great webs, all webs of a few things."""

from itertools import combinations

LETTERS = "abcdefghijklmnopqrstuvwxyz"


class Odd:
    pass


def nested(depth):
    inner = "a"
    for turn in range(depth):
        inner = [inner] if turn % 2 else (inner,)
    return inner


def strange_things():
    """Things of other kinds than a name, a whole number, a list or a tuple of names."""
    return [
        None, True, False, 1.5, b"a", {}, {"a": "b"}, {"a"}, frozenset(["a"]), Odd(), Odd, len,
        [[]], [()], [["a"]], ((),), (["a"],), [{}], [None], (None,), nested(20), nested(19),
    ]


def many_names(count):
    return [LETTERS[k // 26] + LETTERS[k % 26] for k in range(count)]


def forward_ties(names, count):
    """Ties that all go forward in names: a line through them, then others."""
    line = list(zip(names, names[1:]))
    return (line + [pair for pair in combinations(names, 2) if pair not in line])[:count]


def all_webs(names, loops):
    """Every web of these things whose ties stand by places, with loops or without."""
    ends = [(one, other) for one in names for other in names if loops or one != other]
    for bits in range(1 << len(ends)):
        yield (tuple(names), tuple(tie for k, tie in enumerate(ends) if bits >> k & 1))
