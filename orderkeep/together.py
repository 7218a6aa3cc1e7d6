"""Two webs put together, and the ties of the second that would close a ring."""

from orderkeep.rings import refuse_ring, ring_by
from orderkeep.webs import web_of


def together(one, other):
    refuse_ring(one)
    things = list(one[0]) + [thing for thing in other[0] if thing not in one[0]]
    ties = list(one[1])
    left = []
    for tie in [tie for tie in other[1] if tie not in one[1]]:
        ring = ring_by((things, ties), tie[0], tie[1])
        if ring is None:
            ties.append(tie)
        else:
            left.append((tie, ring))
    return (web_of(things, ties), left)
