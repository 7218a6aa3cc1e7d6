"""Houses as texts: shown, and read again."""

from orderkeep.errors import NoText
from orderkeep.frames import WORDS
from orderkeep.houses import house_of
from orderkeep.words import has_names

BOUNDS = {"top": (0, None), "group": (1, None), "tie": (2, 2), "wait": (2, 2), "first": (1, 1), "last": (1, 1)}
TURNS = {"top": 0, "group": 1, "tie": 2, "wait": 3, "first": 4, "last": 4}


def show_house(house):
    rows = [("top",) + house[0][0][1]]
    rows.extend([("group", knot[0]) + knot[1] for knot in house[0][1:]])
    rows.extend([("tie",) + tie for tie in house[1]])
    rows.extend([("wait",) + tie for tie in house[2]])
    rows.extend(house[3])
    return "\n".join([" ".join(row) for row in rows])


def read_house(text):
    if not isinstance(text, str):
        raise NoText(0)
    rows = [line.split(" ") for line in text.split("\n")]
    wrong = first_wrong_row(rows)
    if wrong is not None:
        raise NoText(wrong)
    knots = [("", tuple(rows[0][1:]))] + [(row[1], tuple(row[2:])) for row in rows if row[0] == "group"]
    wants = [tuple(row) for row in rows if row[0] in WORDS]
    return house_of(knots, behind_word(rows, "tie"), behind_word(rows, "wait"), wants)


def first_wrong_row(rows):
    ahead = None
    for number, row in enumerate(rows):
        if not has_names(row, BOUNDS.get(row[0])) or not follows(ahead, row[0]):
            return number
        ahead = row[0]
    return None


def follows(ahead, word):
    if ahead is None:
        return word == "top"
    return word != "top" and TURNS[ahead] <= TURNS[word]


def behind_word(rows, word):
    return [tuple(row[1:]) for row in rows if row[0] == word]
