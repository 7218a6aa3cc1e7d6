import unittest
from itertools import product

from orderkeep.trees import children, knot_of, parting, within
from tests.houses_by_words import lies_within, plain_parting
from tests.samples import deep_knots

DEEP = (deep_knots(), (), (), ())
# a group of things and a group in it; the knots stand otherwise than they are read down
TREE = (
    (("", ("c", "g", "a", "h")), ("k", ("z", "y")), ("h", ("w",)), ("g", ("f", "k", "e", "m")), ("m", ())),
    (("c", "a"), ("z", "w")), (("a", "c"),), (("first", "c"),),
)
UNITS = ["c", "g", "f", "k", "z", "y", "e", "m", "a", "h", "w"]


class KnotsTest(unittest.TestCase):
    def test_knot_of(self):
        self.assertEqual([knot_of(TREE, one) for one in UNITS], ["", "", "g", "g", "k", "k", "g", "g", "", "", "h"])
        self.assertEqual([knot_of(DEEP, one) for one in ("bare", "xa", "ga", "gb", "xc", "gf", "xg", "yg")],
                         ["", "", "", "ga", "gb", "ge", "gf", "gf"])

    def test_children_in_their_order(self):
        for name, row in TREE[0] + DEEP[0]:
            house = TREE if (name, row) in TREE[0] else DEEP
            told = children(house, name)
            self.assertIsInstance(told, list)
            self.assertEqual(told, list(row))
        self.assertEqual(children(TREE, ""), ["c", "g", "a", "h"])
        self.assertEqual(children(TREE, "m"), [])
        self.assertEqual(children(((("", ()),), (), (), ()), ""), [])


class WithinTest(unittest.TestCase):
    def test_read_down_itself_first(self):
        self.assertEqual(within(TREE, "g"), ["g", "f", "k", "z", "y", "e", "m"])
        self.assertEqual(within(TREE, "k"), ["k", "z", "y"])
        self.assertEqual(within(TREE, "h"), ["h", "w"])

    def test_of_a_thing_and_of_a_group_without_children(self):
        self.assertEqual(within(TREE, "c"), ["c"])
        self.assertEqual(within(TREE, "z"), ["z"])
        self.assertEqual(within(TREE, "m"), ["m"])

    def test_groups_within_groups_to_the_sixth(self):
        self.assertEqual(within(DEEP, "ga"), [
            "ga", "xb", "gb", "xc", "gc", "xd", "gd", "xe", "ge", "xf", "gf", "xg", "yg", "yf", "ye", "yd", "yc", "yb"])
        self.assertEqual(within(DEEP, "gf"), ["gf", "xg", "yg"])

    def test_just_those_that_lie_within(self):
        for house in (TREE, DEEP):
            units = [unit for name, row in house[0] for unit in row]
            for one in units:
                told = within(house, one)
                self.assertEqual(sorted(told), sorted(unit for unit in units if lies_within(house, unit, one)))
                self.assertEqual(told[0], one)


class PartingTest(unittest.TestCase):
    def test_at_the_top_and_deep_within(self):
        self.assertEqual(parting(TREE, "c", "a"), ("", "c", "a"))
        self.assertEqual(parting(TREE, "a", "c"), ("", "a", "c"))
        self.assertEqual(parting(TREE, "z", "w"), ("", "g", "h"))
        self.assertEqual(parting(TREE, "w", "m"), ("", "h", "g"))
        self.assertEqual(parting(TREE, "z", "y"), ("k", "z", "y"))
        self.assertEqual(parting(TREE, "e", "z"), ("g", "e", "k"))
        self.assertEqual(parting(TREE, "k", "m"), ("g", "k", "m"))
        self.assertEqual(parting(DEEP, "yg", "xg"), ("gf", "yg", "xg"))
        self.assertEqual(parting(DEEP, "yg", "xf"), ("ge", "gf", "xf"))
        self.assertEqual(parting(DEEP, "bare", "yg"), ("", "bare", "ga"))

    def test_none_where_one_lies_within_the_other(self):
        for one, other in [("g", "f"), ("f", "g"), ("g", "z"), ("z", "g"), ("k", "g"), ("g", "m"), ("z", "k")]:
            self.assertIsNone(parting(TREE, one, other))
        self.assertIsNone(parting(DEEP, "ga", "yg"))
        self.assertIsNone(parting(DEEP, "yg", "ga"))

    def test_none_of_one_and_the_same(self):
        for one in UNITS:
            self.assertIsNone(parting(TREE, one, one))

    def test_each_two_units_by_the_words(self):
        for house in (TREE, DEEP):
            units = [unit for name, row in house[0] for unit in row]
            for one, other in product(units, repeat=2):
                told = parting(house, one, other)
                if lies_within(house, one, other) or lies_within(house, other, one):
                    self.assertIsNone(told)
                else:
                    self.assertIsInstance(told, tuple)
                    self.assertEqual([told], plain_parting(house, one, other))


class OwnTest(unittest.TestCase):
    def test_own_lists(self):
        for ask in (lambda: children(TREE, "g"), lambda: within(TREE, "g"), lambda: within(TREE, "c")):
            kept = list(ask())
            ask().append("z")
            ask().reverse()
            self.assertEqual(ask(), kept)


if __name__ == "__main__":
    unittest.main()
