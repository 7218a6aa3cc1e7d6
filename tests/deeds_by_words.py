"""Plain readings of what the document says of deeds and papers, to hold the program against; and deeds made from a
seed."""

from itertools import combinations, product

from tests.houses_by_words import (
    is_group_ring_by_words, is_tie_ring_by_words, is_want_ring_by_words, left_out, lies_within, plain_parting,
    plain_ring_of_group, plain_ring_of_tie, plain_ring_of_want, plain_view, reaches, units_of)
from tests.samples import plain_moves_let


class Refused(Exception):
    """A refusal by the words: the name of its class, and its field where it has one."""

    def __init__(self, word, field=None):
        self.told = (word, field)


def home_of(house, unit):
    return [name for name, row in house[0] if unit in row][0]


def put_row(house, knot, row):
    return (tuple((name, tuple(row) if name == knot else old) for name, old in house[0]), *house[1:])


def need_units(house, *names):
    for name in names:
        if name not in units_of(house):
            raise Refused("NoUnit", name)


def groups_above(house, unit):
    """How many groups the unit lies within, itself left out."""
    return len([name for name, row in house[0][1:] if name != unit and lies_within(house, unit, name)])


def plain_behind(house, deed):
    """The house behind a deed, by the words; Refused where it is refused."""
    if deed[0] == "many":
        for part in deed[1]:
            house = plain_behind(house, part)
        return house
    refuse_by_words(house, deed)
    ring = plain_ring(house, deed)
    if ring is not None and deed[0] != "wait":
        raise Refused("Ring", ring)
    return plain_done(house, deed)


def refuse_by_words(house, deed):
    """All refusals but Ring."""
    word, units = deed[0], units_of(house)
    knots = dict(house[0])
    if word == "thing":
        if deed[1] in units:
            raise Refused("Twice")
        if deed[2] not in knots:
            raise Refused("NoUnit", deed[2])
    if word in ("tie", "wait", "untie"):
        need_units(house, *deed[1:])
        there = deed[1:] in house[1] + house[2]
        if word == "untie" and not there:
            raise Refused("NoTie")
        if word != "untie" and any(lies_within(house, *pair) for pair in (deed[1:], deed[:0:-1])):
            raise Refused("Within")
        if word != "untie" and there:
            raise Refused("Twice")
        if word != "untie" and len(house[1] + house[2]) > 199:
            raise Refused("TooMany")
    if word == "drop":
        need_units(house, deed[1])
        if knots.get(deed[1]):
            raise Refused("Full")
    if word == "group":
        if deed[1] in units:
            raise Refused("Twice")
        need_units(house, *deed[2])
        if len({home_of(house, member) for member in deed[2]}) > 1:
            raise Refused("Apart")
        inner = [groups_above(house, unit) + 2 for unit in knots if unit
                 and any(lies_within(house, unit, member) for member in deed[2])]
        if max([groups_above(house, deed[2][0]) + 1] + inner) > 6:
            raise Refused("TooMany")
    if word in ("thing", "group") and len(units) > 59:
        raise Refused("TooMany")
    if word == "open" and deed[1] not in knots:
        raise Refused("NoUnit", deed[1])
    if word in ("want", "unwant"):
        need_units(house, deed[2])
        row = knots[home_of(house, deed[2])]
        if word == "unwant" and deed[1:] not in house[3]:
            raise Refused("NoWant")
        if word == "want" and any(unit == deed[2] or (some == deed[1] and unit in row) for some, unit in house[3]):
            raise Refused("Twice")


def plain_ring(house, deed):
    if deed[0] in ("tie", "wait"):
        return plain_ring_of_tie(house, *deed[1:])
    if deed[0] == "want":
        return plain_ring_of_want(house, *deed[1:])
    return plain_ring_of_group(house, deed[2]) if deed[0] == "group" else None


def plain_done(house, deed):
    knots, ties, waiting, wants = house
    word = deed[0]
    if word == "thing":
        row = dict(knots)[deed[2]]
        place = len(row) - any(("last", child) in wants for child in row)
        return put_row(house, deed[2], row[:place] + (deed[1],) + row[place:])
    if word in ("tie", "wait"):
        return plain_laid(house, deed[1:])
    if word == "want":
        row = dict(knots)[home_of(house, deed[2])]
        rest = tuple(child for child in row if child != deed[2])
        row = (deed[2], *rest) if deed[1] == "first" else (*rest, deed[2])
        return put_row((knots, ties, waiting, wants + (deed[1:],)), home_of(house, deed[2]), row)
    if word == "group":
        return plain_let_in(plain_grouped(house, deed[1], deed[2]))
    if word == "untie" and deed[1:] in waiting:
        return plain_gone(house, deed)
    return plain_let_in(plain_gone(house, deed))


def plain_laid(house, tie):
    """The house with the tie kept, or waiting where it closes a ring."""
    knots, ties, waiting, wants = house
    if plain_ring_of_tie(house, *tie) is not None:
        return (knots, ties, waiting + (tie,), wants)
    knot, one, other = plain_parting(house, *tie)[0]
    web = plain_view(house, knot)
    row = list(web[0])
    if row.index(one) > row.index(other):
        between = row[row.index(other):row.index(one) + 1]
        back = [child for child in between if reaches(web, child, one)]
        forward = [child for child in between if reaches(web, other, child)]
        places = sorted(row.index(child) for child in back + forward)
        for place, child in zip(places, back + forward):
            row[place] = child
    return put_row((knots, ties + (tie,), waiting, wants), knot, row)


def plain_let_in(house):
    """Each waiting tie waits anew, as if it came now."""
    waiting = house[2]
    house = (house[0], house[1], (), house[3])
    for tie in waiting:
        house = plain_laid(house, tie)
    return house


def plain_gone(house, deed):
    knots, ties, waiting, wants = house
    if deed[0] == "untie":
        ties, waiting = [tuple(tie for tie in some if tie != deed[1:]) for some in (ties, waiting)]
        return (knots, ties, waiting, wants)
    if deed[0] == "unwant":
        return (knots, ties, waiting, tuple(want for want in wants if want != deed[1:]))
    unit = deed[1]
    inner = dict(knots).get(unit, ())
    knots = [(name, row) for name, row in knots if name != unit]
    knots = [(name, sum([inner if child == unit else (child,) for child in row], ())) for name, row in knots]
    ties, waiting = [tuple(tie for tie in some if unit not in tie) for some in (ties, waiting)]
    return (tuple(knots), ties, waiting, tuple(want for want in wants if want[1] not in (unit, *inner)))


def plain_grouped(house, name, members):
    knot = home_of(house, members[0])
    web = plain_view(left_out(house, members), knot)
    row = list(web[0])
    inner = [child for child in row if child in members]
    first, last = row.index(inner[0]), row.index(inner[-1])
    others = [child for child in row[first:last] if child not in members]
    behind = [child for child in others if any(reaches(web, member, child) for member in members)]
    ahead = [child for child in others if child not in behind]
    told = put_row(house, knot, row[:first] + ahead + [name] + behind + row[last + 1:])
    return (told[0] + ((name, tuple(inner)),), *told[1:])


def plain_led(house, deed, paper):
    """The house to which a paper leads by the words, None where it is not let by: of a deed that is no many, and of a
    list of rows, tuples of the four forms."""
    try:
        refuse_by_words(house, deed)
    except Refused:
        return None
    knots, ties, waiting, wants = house
    word = deed[0]
    if word == "thing" or (word == "untie" and deed[1:] in waiting):
        return plain_done(house, deed) if paper == [] else None
    if word in ("tie", "wait"):
        fits = len(paper) == 1 and plain_row_lets(house, deed[1:], paper[0])
        if fits and word == "wait" and paper[0][0] == "ring":
            return (knots, ties, waiting + (deed[1:],), wants)
        return plain_by_row(house, paper[0]) if fits else None
    if word == "want":
        return plain_led_by_want(house, deed, paper)
    if word == "group":
        return plain_led_by_group(house, deed, paper)
    return plain_led_by_rows(plain_gone(house, deed), paper)


def plain_row_lets(house, tie, row):
    if len(row) != 4 or row[1:3] != tie:
        return False
    if row[0] == "ring":
        return is_tie_ring_by_words(house, *tie, row[3])
    knot, one, other = plain_parting(house, *tie)[0]
    web = plain_view(house, knot)
    return row[0] == "lay" and plain_moves_let(web, list(web[0]), one, other, row[3])


def plain_by_row(house, row):
    if row[0] == "ring":
        return house
    knots, ties, waiting, wants = house
    knot = plain_parting(house, *row[1:3])[0][0]
    children = list(dict(knots)[knot])
    for thing, old, new in row[3]:
        children[new] = thing
    waiting = tuple(tie for tie in waiting if tie != row[1:3])
    return put_row((knots, ties + (row[1:3],), waiting, wants), knot, children)


def plain_led_by_rows(house, rows):
    waiting = house[2]
    if len(rows) != len(waiting):
        return None
    for tie, row in zip(waiting, rows):
        if not plain_row_lets(house, tie, row):
            return None
        house = plain_by_row(house, row)
    return house


def is_order_by_words(web, row):
    return sorted(row) == sorted(web[0]) and all(row.index(one) < row.index(other) for one, other in web[1])


def plain_led_by_want(house, deed, paper):
    knots, ties, waiting, wants = house
    if len(paper) != 1 or len(paper[0]) != 2:
        return None
    if paper[0][0] == "bar":
        return house if is_want_ring_by_words(house, *deed[1:], paper[0][1]) else None
    wanted = (knots, ties, waiting, wants + (deed[1:],))
    knot = home_of(house, deed[2])
    fits = paper[0][0] == "place" and is_order_by_words(plain_view(wanted, knot), paper[0][1])
    return put_row(wanted, knot, paper[0][1]) if fits else None


def plain_led_by_group(house, deed, paper):
    if not paper or len(paper[0]) != 2:
        return None
    if paper[0][0] == "bar":
        return house if len(paper) == 1 and is_group_ring_by_words(house, deed[2], paper[0][1]) else None
    knot = home_of(house, deed[2][0])
    grouped = plain_grouped(house, deed[1], deed[2])
    if paper[0][0] != "place" or not is_order_by_words(plain_view(grouped, knot), paper[0][1]):
        return None
    return plain_led_by_rows(put_row(grouped, knot, paper[0][1]), paper[1:])


def all_deeds(house):
    """Deeds of each word, with units of the house, a name that is none of them, and the top."""
    units = units_of(house) + ["new"]
    deeds = [("thing", name, knot) for name in units[-2:] for knot in units + [""]]
    deeds += [(word, *pair) for word in ("tie", "wait", "untie") for pair in product(units, repeat=2)]
    deeds += [(word, unit) for word in ("drop", "open") for unit in units]
    deeds += [(word, some, unit) for word in ("want", "unwant") for some in ("first", "last") for unit in units]
    for count in (1, 2, 3):
        deeds += [("group", name, members) for members in combinations(units[::-1], count) for name in units[-2:]]
    return deeds + [("group", "new", list(row[::-1])) for name, row in house[0] if len(row) > 3]


def made_deed(chance, house, name):
    """A deed of units of the house, of its knots, and of the new name; it may be refused."""
    units, knots = units_of(house) or [name], [knot for knot, row in house[0]]
    one, other = chance.choice(units), chance.choice(units)
    some = chance.choice(("first", "last"))
    row = chance.choice([row for knot, row in house[0] if row] or [(name,)])
    often = {"thing": 5, "tie": 6, "wait": 6, "untie": 3, "group": 2, "want": 2, "unwant": 2, "drop": 1, "open": 1}
    word = chance.choice([word for word, times in often.items() for turn in range(times)])
    return {
        "thing": ("thing", name, chance.choice(knots)),
        "tie": ("tie", one, other),
        "wait": ("wait", one, other),
        "untie": ("untie", *chance.choice(list(house[1] + house[2]) or [(one, other)])),
        "drop": ("drop", one),
        "group": ("group", name, chance.sample(row, min(len(row), chance.randint(1, 3)))),
        "open": ("open", chance.choice(knots[1:] or units)),
        "want": ("want", some, one),
        "unwant": ("unwant", *chance.choice(list(house[3]) or [(some, one)])),
    }[word]
