"""The tree of a house: its knots, what stands in them, and where two units part."""


def knot_of(house, one):
    return homes(house)[one]


def children(house, knot):
    return list(dict(house[0])[knot])


def within(house, one):
    return read_down(dict(house[0]), one)


def parting(house, one, other):
    return parting_by(homes(house), one, other)


def homes(house):
    table = {}
    for knot in house[0]:
        for child in knot[1]:
            table[child] = knot[0]
    return table


def read_down(knots, one):
    told = [one]
    for child in knots.get(one, ()):
        told.extend(read_down(knots, child))
    return told


def parting_by(table, one, other):
    knot = ""
    for pair in zip(line_down(table, one), line_down(table, other)):
        if pair[0] != pair[1]:
            return (knot, pair[0], pair[1])
        knot = pair[0]
    return None


def line_down(table, one):
    line = [one]
    while table[line[-1]] != "":
        line.append(table[line[-1]])
    line.reverse()
    return line
