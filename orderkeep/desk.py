"""A desk: it is told rows of words, and answers each with a text."""

from orderkeep.errors import NoRow
from orderkeep.hanging import hangs
from orderkeep.houses import whole_order
from orderkeep.housetexts import show_house
from orderkeep.keeper import Keeper
from orderkeep.layers import layers
from orderkeep.refusals import need_knot, need_one_knot, need_parting, need_units
from orderkeep.steps import ring_of_tie
from orderkeep.trees import children, knot_of
from orderkeep.views import view
from orderkeep.words import has_names

BOUNDS = {
    "thing": (1, 2), "tie": (2, 2), "untie": (2, 2), "wait": (2, 2), "drop": (1, 1), "group": (2, None), "open": (1, 1),
    "first": (1, 1), "last": (1, 1), "nofirst": (1, 1), "nolast": (1, 1), "undo": (0, 0), "redo": (0, 0),
    "house": (0, 0), "order": (0, 0), "knot": (0, 1), "ring": (2, 2), "hangs": (2, 2), "layers": (0, 1),
    "waiting": (0, 0),
}


def tell_house(house, names):
    return show_house(house)


def tell_order(house, names):
    return " ".join(whole_order(house))


def tell_knot(house, names):
    return " ".join(children(house, knot_asked(house, names)))


def tell_ring(house, names):
    need_units(house, names)
    need_parting(house, names)
    ring = ring_of_tie(house, names[0], names[1])
    return "none" if ring is None else in_one_row(ring)


def tell_hanging(house, names):
    need_units(house, names)
    need_one_knot(house, names)
    told = hangs(view(house, knot_of(house, names[0])), names[0], names[1])
    return "no" if told[0] == "no" else " ".join(["yes"] + told[1])


def tell_layers(house, names):
    return " ".join([str(layer) for layer in layers(view(house, knot_asked(house, names)))])


def tell_waiting(house, names):
    return in_one_row(house[2])


def knot_asked(house, names):
    if len(names) == 0:
        return ""
    need_knot(house, names[0])
    return names[0]


def in_one_row(some):
    return " ; ".join([" ".join(words) for words in some])


ANSWERS = {
    "house": tell_house,
    "order": tell_order,
    "knot": tell_knot,
    "ring": tell_ring,
    "hangs": tell_hanging,
    "layers": tell_layers,
    "waiting": tell_waiting,
}


def words_of(row):
    if not isinstance(row, str):
        raise NoRow("a row is a text")
    words = row.split(" ")
    if not has_names(words, BOUNDS.get(words[0])):
        raise NoRow("there is no such row")
    return words


def deed_of(words):
    if words[0] == "thing":
        return ("thing", words[1], words[2] if len(words) > 2 else "")
    if words[0] == "group":
        return ("group", words[1], words[2:])
    if words[0] in ("first", "last"):
        return ("want", words[0], words[1])
    if words[0] in ("nofirst", "nolast"):
        return ("unwant", words[0][2:], words[1])
    return tuple(words)


class Desk:
    def __init__(self):
        self.keeper = Keeper()

    def say(self, row):
        words = words_of(row)
        if words[0] in ANSWERS:
            return ANSWERS[words[0]](self.keeper.house(), words[1:])
        if words[0] == "undo":
            self.keeper.undo()
        elif words[0] == "redo":
            self.keeper.redo()
        else:
            self.keeper.do(deed_of(words))
        return self.answer(words)

    def answer(self, words):
        if words[0] == "wait" and tuple(words[1:]) in self.keeper.house()[2]:
            return "waits"
        return "ok"
