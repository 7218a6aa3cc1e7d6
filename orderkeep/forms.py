"""The forms of deeds: of whatever thing, whether it is one."""

from orderkeep.frames import WORDS
from orderkeep.names import is_name
from orderkeep.webs import are_unlike_names

PARTS = {
    "thing": ("name", "knot"),
    "tie": ("name", "name"),
    "wait": ("name", "name"),
    "untie": ("name", "name"),
    "drop": ("name",),
    "group": ("name", "members"),
    "open": ("name",),
    "want": ("word", "name"),
    "unwant": ("word", "name"),
}


def is_single(thing):
    if not has_word(thing) or thing[0] not in PARTS:
        return False
    sorts = PARTS[thing[0]]
    if len(thing) != len(sorts) + 1:
        return False
    return all([is_part(sort, part) for sort, part in zip(sorts, thing[1:])])


def is_many(thing):
    # Whether deeds stand in it is not looked at here.
    if not has_word(thing) or thing[0] != "many" or len(thing) != 2:
        return False
    return isinstance(thing[1], (list, tuple))


def has_word(thing):
    return isinstance(thing, tuple) and len(thing) > 0 and isinstance(thing[0], str)


def is_part(sort, part):
    if sort == "members":
        return are_unlike_names(part) and len(part) > 0
    if sort == "word":
        return isinstance(part, str) and part in WORDS
    if sort == "knot" and isinstance(part, str) and part == "":
        return True
    return is_name(part)
