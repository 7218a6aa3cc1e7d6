"""A house called otherwise; and nothing hangs on how names are spelled: all is told alike but for names."""

import unittest
from itertools import product

from orderkeep.called import called
from orderkeep.checker import led_to, lets_by
from orderkeep.deeds import behind
from orderkeep.depths import deepest, depths
from orderkeep.errors import Clash, OrderError
from orderkeep.hanging import hangs
from orderkeep.houses import EMPTY, house_of, is_house, whole_order
from orderkeep.layers import layers, longest
from orderkeep.moves import moves_of
from orderkeep.orders import order_anew
from orderkeep.papers import paper_of
from orderkeep.reach import aheads, behinds, way
from orderkeep.rings import ring_by, ring_of
from orderkeep.steps import ring_of_group, ring_of_tie, ring_of_want
from orderkeep.stretch import stretch
from orderkeep.together import together
from orderkeep.trees import children, knot_of, parting, within
from orderkeep.views import view
from orderkeep.webs import nexts, priors, web_of
from tests.deeds_by_words import all_deeds
from tests.houses_by_words import free_pairs, free_wants, made_houses
from tests.samples import all_webs, many_names, plain_orders, strange_things
from tests.test_deeds import HOUSE, NO_NAMES

NAMES = {"a": "z", "b": "y", "c": "x"}
# the names of the made houses, the other way round by their letters
NAMES.update(zip(many_names(7), many_names(20)[:12:-1]))


def renamed(thing):
    if isinstance(thing, (list, tuple)):
        return thing.__class__(renamed(part) for part in thing)
    return NAMES.get(thing, thing)


def told(ask, *handed):
    """What is told, or the refusal with its field."""
    try:
        return ask(*handed)
    except OrderError as error:
        return (error.__class__.__name__, getattr(error, "ring", getattr(error, "name", None)))


class CalledTest(unittest.TestCase):
    def clash(self, house, names):
        with self.assertRaises(Clash, msg=repr(names)) as caught:
            called(house, names)
        self.assertEqual(caught.exception.__class__, Clash)

    def test_knots_ties_waiting_ones_and_wants(self):
        names = {"a": "first", "g": "gg", "h": "top", "e": "last", "d": "a", "b": "b"}
        house = called(HOUSE, names)
        self.assertEqual(house, (
            (("", ("first", "gg", "last")), ("gg", ("b", "top", "a")), ("top", ("c",))),
            (("first", "c"), ("b", "a"), ("gg", "last")), (("last", "b"), ("a", "b")),
            (("first", "first"), ("last", "last"), ("last", "a"), ("first", "c"))))
        self.assertIs(is_house(house), True)

    def test_words_are_no_names_of_units(self):
        # a key may be spelled like a want's word, and like a unit
        house = house_of([("", ("first", "tie"))], [("first", "tie")], [], [("first", "first"), ("last", "tie")])
        self.assertEqual(called(house, {"first": "a", "last": "b", "tie": "last", "top": "c"}), (
            (("", ("a", "last")),), (("a", "last"),), (), (("first", "a"), ("last", "last"))))

    def test_a_name_that_is_not_in_the_dict_stays(self):
        self.assertEqual(called(HOUSE, {}), HOUSE)
        self.assertEqual(called(EMPTY, {"a": "b"}), EMPTY)
        self.assertEqual(called(HOUSE, {"x": "y", "abcdefgh": "a"}), HOUSE)
        self.assertEqual(called(HOUSE, {"c": "z"})[0], HOUSE[0][:2] + (("h", ("z",)),))

    def test_units_that_change_names_with_one_another(self):
        house = house_of([("", ("a", "b", "c"))], [("a", "b")], [("b", "a")], [("last", "c")])
        self.assertEqual(called(house, {"a": "b", "b": "a"}), (
            (("", ("b", "a", "c")),), (("b", "a"),), (("a", "b"),), (("last", "c"),)))
        self.assertEqual(called(house, {"a": "b", "b": "c", "c": "a"}), (
            (("", ("b", "c", "a")),), (("b", "c"),), (("c", "b"),), (("last", "a"),)))
        there = called(HOUSE, {"g": "h", "h": "g", "a": "x"})
        self.assertEqual(called(there, {"h": "g", "g": "h", "x": "a"}), HOUSE)

    def test_two_unlike_units_of_one_name(self):
        for names in [
            {"a": "b"}, {"g": "c"}, {"a": "x", "c": "x"}, {"h": "e"}, {"a": "b", "b": "c"},
            {"g": "h", "h": "x", "a": "h"},
        ]:
            self.clash(HOUSE, names)
        # of two keys with one value no more than one is a unit
        self.assertEqual(called(HOUSE, {"c": "z", "x": "z", "y": "a"})[0], HOUSE[0][:2] + (("h", ("z",)),))
        self.assertEqual(called(HOUSE, {"a": "a"}), HOUSE)

    def test_a_key_or_a_value_that_is_no_name(self):
        for thing in NO_NAMES + strange_things() + [1.0, 30 * "a", "a\n"]:
            for house in (HOUSE, EMPTY):
                self.clash(house, {"a": thing})
                self.clash(house, {"nope": thing})
                self.clash(house, {"c": "z", "nope": thing, "e": "y"})
            if thing.__hash__ is None or isinstance(thing, tuple):
                continue
            for house in (HOUSE, EMPTY):
                self.clash(house, {thing: "a"})
                self.clash(house, {"c": "z", thing: "y"})
        self.clash(HOUSE, {"": ""})
        self.clash(HOUSE, {("a",): "b"})

    def test_what_is_handed_in_stays(self):
        names = {"a": "x", "g": "y"}
        house = called(HOUSE, names)
        self.assertEqual(names, {"a": "x", "g": "y"})
        names.clear()
        self.assertEqual(house[0][0], ("", ("x", "y", "e")))


class AlikeTest(unittest.TestCase):
    def same(self, ask, *handed):
        self.assertEqual(told(ask, *renamed(handed)), renamed(told(ask, *handed)))

    def test_called_otherwise_all_is_told_alike(self):
        for web in all_webs(["b", "a", "c"], True):
            self.assertEqual(web_of(*renamed(web)), renamed(web))
            for ask in (ring_of, order_anew, layers, longest):
                self.same(ask, web)
            for ask in (depths, deepest):
                self.same(ask, web, [2, -1, 1])
            for one in web[0]:
                for ask in (nexts, priors, behinds, aheads):
                    self.same(ask, web, one)
            for one, other in product(web[0], repeat=2):
                for ask in (way, ring_by, hangs):
                    self.same(ask, web, one, other)

    def test_a_tie_laid(self):
        for web in all_webs(["b", "a", "c"], False):
            for order in plain_orders(web):
                for one, other in product(web[0], repeat=2):
                    for ask in (stretch, moves_of):
                        self.same(ask, web, order, one, other)

    def test_houses(self):
        for house in made_houses(100):
            self.assertEqual(called(house, NAMES), renamed(house))
            self.same(is_house, house)
            self.same(whole_order, house)
            for name, row in house[0]:
                self.same(view, house, name)
                self.same(children, house, name)
                for unit in row:
                    self.same(within, house, unit)
                    self.same(knot_of, house, unit)
                for members in (row[:1], row[::2], row[1:], list(row[::-3])):
                    if members:
                        self.same(ring_of_group, house, members)
            for pair in free_pairs(house):
                self.same(parting, house, *pair)
                self.same(ring_of_tie, house, *pair)
            for want in free_wants(house):
                self.same(ring_of_want, house, *want)

    def test_deeds_and_papers(self):
        for number, house in enumerate(made_houses(60)):
            for deed in all_deeds(house)[number % 4::4]:
                self.same(behind, house, deed)
                self.same(paper_of, house, deed)
                paper = told(paper_of, house, deed)
                if isinstance(paper, list):
                    self.same(lets_by, house, deed, paper)
                    self.same(led_to, house, deed, paper)

    def test_two_webs(self):
        for one in all_webs(["b", "a"], True):
            for other in all_webs(["a", "c"], True):
                self.same(together, one, other)


if __name__ == "__main__":
    unittest.main()
