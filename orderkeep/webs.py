"""Webs: things, and ties that want one thing ahead of another."""

from orderkeep.errors import NoWeb
from orderkeep.names import is_name

MOST_THINGS = 60
MOST_TIES = 400


def web_of(things, ties):
    if not are_things(things):
        raise NoWeb("the things are no list or tuple of at most 60 unlike names")
    if not isinstance(ties, (list, tuple)):
        raise NoWeb("the ties are no list or tuple")
    wrong = first_wrong_tie(things, ties)
    if wrong is not None:
        raise NoWeb(f"the tie at {wrong} is no tie of two things, is there twice, or is one too many")
    return (tuple(things), tuple([(tie[0], tie[1]) for tie in ties]))


def nexts(web, one):
    found = places_of([tie[1] for tie in web[1] if tie[0] == one])
    return [thing for thing in web[0] if thing in found]


def priors(web, one):
    found = places_of([tie[0] for tie in web[1] if tie[1] == one])
    return [thing for thing in web[0] if thing in found]


def places_of(things):
    places = {}
    for place, thing in enumerate(things):
        places[thing] = place
    return places


def are_things(things):
    return are_unlike_names(things) and len(things) <= MOST_THINGS


def are_unlike_names(things):
    if not isinstance(things, (list, tuple)):
        return False
    # Names first: what is no name may be nothing that a dict can hold.
    return all([is_name(thing) for thing in things]) and are_unlike(things)


def are_unlike(things):
    return len(places_of(things)) == len(things)


def first_wrong_tie(things, ties):
    places = places_of(things)
    seen = {}
    for number, tie in enumerate(ties):
        if number == MOST_TIES or not is_tie_among(places, tie) or tie in seen:
            return number
        seen[tie] = True
    return None


def is_tie_among(places, tie):
    if not isinstance(tie, tuple) or len(tie) != 2:
        return False
    return all([is_name(end) and end in places for end in tie])


def lists_things(web, thing):
    if not isinstance(thing, list):
        return False
    places = places_of(web[0])
    return all([is_name(part) and part in places for part in thing])
