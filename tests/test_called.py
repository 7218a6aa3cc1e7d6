"""Nothing hangs on how names are spelled: called otherwise, all is told alike but for names."""

import unittest
from itertools import product

from orderkeep.depths import deepest, depths
from orderkeep.errors import Ring
from orderkeep.hanging import hangs
from orderkeep.houses import is_house, whole_order
from orderkeep.layers import layers, longest
from orderkeep.moves import moves_of
from orderkeep.orders import order_anew
from orderkeep.reach import aheads, behinds, way
from orderkeep.rings import ring_by, ring_of
from orderkeep.steps import ring_of_group, ring_of_tie, ring_of_want
from orderkeep.stretch import stretch
from orderkeep.trees import children, knot_of, parting, within
from orderkeep.views import view
from orderkeep.webs import nexts, priors, web_of
from tests.houses_by_words import free_pairs, free_wants, made_houses
from tests.samples import all_webs, many_names, plain_orders

NAMES = {"a": "z", "b": "y", "c": "x"}
# the names of the made houses, the other way round by their letters
NAMES.update(zip(many_names(7), many_names(20)[:12:-1]))


def called(thing):
    if isinstance(thing, (list, tuple)):
        return thing.__class__(called(part) for part in thing)
    return NAMES.get(thing, thing)


def told(ask, *handed):
    """What is told, or the ring with which it is refused."""
    try:
        return ask(*handed)
    except Ring as error:
        return error.ring


class CalledTest(unittest.TestCase):
    def same(self, ask, *handed):
        self.assertEqual(told(ask, *called(handed)), called(told(ask, *handed)))

    def test_called_otherwise_all_is_told_alike(self):
        for web in all_webs(["b", "a", "c"], True):
            self.assertEqual(web_of(*called(web)), called(web))
            for ask in (ring_of, order_anew, layers, longest):
                self.same(ask, web)
            for ask in (depths, deepest):
                self.same(ask, web, [2, -1, 1])
            for one in web[0]:
                for ask in (nexts, priors, behinds, aheads):
                    self.same(ask, web, one)
            for one, other in product(web[0], repeat=2):
                for ask in (way, ring_by, hangs):
                    self.same(ask, web, one, other)

    def test_a_tie_laid(self):
        for web in all_webs(["b", "a", "c"], False):
            for order in plain_orders(web):
                for one, other in product(web[0], repeat=2):
                    for ask in (stretch, moves_of):
                        self.same(ask, web, order, one, other)

    def test_houses(self):
        for house in made_houses(100):
            self.same(is_house, house)
            self.same(whole_order, house)
            for name, row in house[0]:
                self.same(view, house, name)
                self.same(children, house, name)
                for unit in row:
                    self.same(within, house, unit)
                    self.same(knot_of, house, unit)
                for members in (row[:1], row[::2], row[1:], list(row[::-3])):
                    if members:
                        self.same(ring_of_group, house, members)
            for pair in free_pairs(house):
                self.same(parting, house, *pair)
                self.same(ring_of_tie, house, *pair)
            for want in free_wants(house):
                self.same(ring_of_want, house, *want)


if __name__ == "__main__":
    unittest.main()
