"""Exchanges of neighbours, by which one order of a web becomes another one."""

from orderkeep.errors import NoOrder
from orderkeep.names import is_whole
from orderkeep.orders import is_order
from orderkeep.webs import places_of


def exchanges(web, one, other):
    if not is_order(web, one) or not is_order(web, other):
        raise NoOrder("what is handed in is no order of the web")
    goal = places_of(other)
    row = list(one)
    told = []
    least = first_unlike(row, goal)
    while least is not None:
        row = exchanged(row, least)
        told.append(least)
        least = first_unlike(row, goal)
    return told


def led(order, some):
    row = list(order)
    for number in some:
        row = exchanged(row, number)
    return row


def joins(web, one, other, some):
    if not isinstance(some, list):
        return False
    ties = places_of(web[1])
    row = list(one)
    for number in some:
        if not is_free(ties, row, number):
            return False
        row = exchanged(row, number)
    return row == other


def first_unlike(row, goal):
    for number in range(len(row) - 1):
        if goal[row[number]] > goal[row[number + 1]]:
            return number
    return None


def exchanged(row, number):
    return row[:number] + [row[number + 1], row[number]] + row[number + 2:]


def is_free(ties, row, number):
    if not is_whole(number) or number < 0 or number > len(row) - 2:
        return False
    ahead = row[number]
    follower = row[number + 1]
    return (ahead, follower) not in ties and (follower, ahead) not in ties
