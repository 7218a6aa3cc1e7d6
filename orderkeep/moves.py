"""Moves, by which an order becomes one that keeps a tie as well."""

from orderkeep.names import is_name, is_whole
from orderkeep.stretch import stretch
from orderkeep.webs import are_unlike, places_of


def moves_of(web, order, one, other):
    sorts = stretch(web, order, one, other)
    row = sorts[0] + sorts[1]
    places = places_of(order)
    olds = sorted([places[thing] for thing in row])
    news = dict(zip(row, olds))
    return [(order[old], old, news[order[old]]) for old in olds]


def lets_moves(web, order, one, other, told):
    if not are_moves(order, told):
        return False
    moving = places_of([move[0] for move in told])
    places = places_of(moved(order, told))
    ties = [tie for tie in web[1] if tie[0] in moving or tie[1] in moving] + [(one, other)]
    return all([places[tie[0]] < places[tie[1]] for tie in ties])


def moved(order, moves):
    row = list(order)
    for move in moves:
        row[move[2]] = move[0]
    return row


def are_moves(order, told):
    places = places_of(order)
    if not isinstance(told, list) or not all([is_move(places, move) for move in told]):
        return False
    olds = [move[1] for move in told]
    # Each stands at its old, so that unlike olds are unlike things.
    return are_unlike(olds) and sorted([move[2] for move in told]) == sorted(olds)


def is_move(places, move):
    if not isinstance(move, tuple) or len(move) != 3:
        return False
    if not is_name(move[0]) or not is_whole(move[1]) or not is_whole(move[2]):
        return False
    return move[0] in places and places[move[0]] == move[1]
