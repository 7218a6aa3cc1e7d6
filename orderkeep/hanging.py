"""Whether a thing hangs on another one: told with what shows it, and looked at."""

from orderkeep.reach import behinds, way
from orderkeep.webs import are_unlike, lists_things, places_of


def hangs(web, one, other):
    found = way(web, one, other)
    if found is None:
        return ("no", behinds(web, one))
    return ("yes", found)


def shows_hanging(web, one, other, told):
    if not isinstance(told, tuple) or len(told) != 2:
        return False
    if not isinstance(told[0], str) or not lists_things(web, told[1]):
        return False
    if told[0] == "yes":
        return is_way(web, one, other, told[1])
    return told[0] == "no" and is_shut(web, one, other, told[1])


def is_way(web, one, other, things):
    if one == other:
        return things == [one]
    if len(things) < 2 or things[0] != one or things[-1] != other:
        return False
    ties = places_of(web[1])
    return all([pair in ties for pair in zip(things, things[1:])])


def is_shut(web, one, other, things):
    shut = places_of(things)
    if not are_unlike(things) or one not in shut or other in shut:
        return False
    return all([tie[1] in shut for tie in web[1] if tie[0] in shut])
