import unittest
from itertools import permutations, product

from orderkeep.errors import Ring
from orderkeep.orders import is_order, order_anew, unlike
from orderkeep.rings import ring_of
from orderkeep.webs import web_of
from tests.samples import all_webs, forward_ties, many_names, strange_things


def is_plain_order(web, some):
    return sorted(some) == sorted(web[0]) and all(some.index(one) < some.index(other) for one, other in web[1])


def plain_anew(web):
    told = []
    while len(told) < len(web[0]):
        left = [thing for thing in web[0] if thing not in told]
        told.append([one for one in left if not any((other, one) in web[1] for other in left)][0])
    return told


class IsOrderTest(unittest.TestCase):
    def test_each_list_of_at_most_four_things_by_the_words(self):
        lists = [list(some) for count in range(5) for some in product("cab", repeat=count)]
        for web in all_webs(["c", "a", "b"], True):
            for some in lists:
                self.assertIs(is_order(web, some), is_plain_order(web, some), (web, some))

    def test_a_web_with_a_ring_has_none(self):
        for ties in ([("a", "a")], [("a", "b"), ("b", "a")]):
            for some in permutations(["a", "b"]):
                self.assertIs(is_order(web_of(["a", "b"], ties), list(some)), False)

    def test_without_things(self):
        web = web_of([], [])
        self.assertIs(is_order(web, []), True)
        for thing in [(), "", None, 0, False, {}, ["a"], [[]]]:
            self.assertIs(is_order(web, thing), False, repr(thing))

    def test_whatever_thing(self):
        web = web_of(["b", "a"], [("a", "b")])
        self.assertIs(is_order(web, ["a", "b"]), True)
        for thing in [
            ("a", "b"), "ab", ["a"], ["b"], [], ["a", "b", "b"], ["a", "b", "c"], ["a", "c"], ["a", "a"], ["b", "a"],
            {"a": 0, "b": 1}, ["a", None], ["a", ["b"]], ["a", ("b",)], ["a", 1], [True, "b"], ["a", "b", {}],
            ["a", "b "], [["a", "b"]], {"a", "b"}, 0, 1, "", "a b",
        ] + strange_things() + [["a", thing] for thing in strange_things()]:
            self.assertIs(is_order(web, thing), False, repr(thing))

    def test_great_webs(self):
        names = many_names(60)
        web = web_of(names[::-1], forward_ties(names, 400))
        self.assertIs(is_order(web, names), True)
        self.assertIs(is_order(web, names[::-1]), False)
        self.assertIs(is_order(web, names[:58] + [names[59], names[58]]), False)
        self.assertIs(is_order(web, names * 16), False)

    def test_what_is_handed_in_stays(self):
        web = web_of(["b", "a"], [("a", "b")])
        some = ["b", "a"]
        is_order(web, some)
        self.assertEqual(some, ["b", "a"])


class OrderAnewTest(unittest.TestCase):
    def test_all_webs(self):
        for web in list(all_webs(["c", "a", "b"], True)) + list(all_webs(["b", "d", "a", "c"], False)):
            if ring_of(web) is None:
                self.assertEqual(order_anew(web), plain_anew(web), web)
                self.assertIs(is_order(web, order_anew(web)), True)
            else:
                with self.assertRaises(Ring) as caught:
                    order_anew(web)
                self.assertEqual(caught.exception.ring, ring_of(web))

    def test_first_by_places_again_and_again(self):
        web = web_of(["d", "c", "b", "a"], [("b", "d")])
        self.assertEqual(order_anew(web), ["c", "b", "d", "a"])
        self.assertEqual(order_anew(web_of(["b", "a"], [])), ["b", "a"])
        self.assertEqual(order_anew(web_of([], [])), [])

    def test_the_ring_is_the_ring_of_the_web(self):
        web = web_of(["a", "b", "c", "d"], [("a", "b"), ("d", "c"), ("c", "d"), ("a", "a")])
        for turn in range(2):
            with self.assertRaises(Ring) as caught:
                order_anew(web)
            self.assertEqual(caught.exception.ring, ["d", "c"])
            caught.exception.ring.clear()

    def test_great_webs(self):
        names = many_names(60)
        self.assertEqual(order_anew(web_of(names[::-1], forward_ties(names, 400))), names)
        self.assertEqual(order_anew(web_of(names[::-1], [])), names[::-1])

    def test_own_lists(self):
        web = web_of(["b", "a"], [("a", "b")])
        order_anew(web).clear()
        self.assertEqual(order_anew(web), ["a", "b"])


class UnlikeTest(unittest.TestCase):
    def test_by_the_places_in_the_first(self):
        web = web_of(["d", "c", "b", "a"], [])
        self.assertEqual(unlike(web, ["b", "a", "d", "c"], ["c", "d", "a", "b"]),
                         [("b", "a"), ("b", "d"), ("b", "c"), ("a", "d"), ("a", "c"), ("d", "c")])
        self.assertEqual(unlike(web, ["a", "b", "c", "d"], ["b", "c", "d", "a"]), [("a", "b"), ("a", "c"), ("a", "d")])

    def test_none_for_an_order_and_itself(self):
        web = web_of(["b", "a"], [])
        self.assertEqual(unlike(web, ["a", "b"], ["a", "b"]), [])
        self.assertEqual(unlike(web_of([], []), [], []), [])

    def test_all_orders_of_four_things(self):
        web = web_of(["d", "b", "c", "a"], [("b", "c")])
        orders = [list(some) for some in permutations(web[0]) if is_plain_order(web, list(some))]
        for one, other in product(orders, repeat=2):
            pairs = [(a, b) for k, a in enumerate(one) for b in one[k + 1:] if other.index(b) < other.index(a)]
            self.assertEqual(unlike(web, one, other), pairs)

    def test_what_is_handed_in_stays_and_what_is_told_is_own(self):
        web = web_of(["b", "a"], [])
        one, other = ["a", "b"], ["b", "a"]
        unlike(web, one, other).clear()
        self.assertEqual(unlike(web, one, other), [("a", "b")])
        self.assertEqual((one, other), (["a", "b"], ["b", "a"]))


if __name__ == "__main__":
    unittest.main()
