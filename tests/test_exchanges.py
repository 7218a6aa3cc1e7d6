import unittest
from itertools import permutations, product

from orderkeep.errors import NoOrder
from orderkeep.exchanges import exchanges, joins, led
from orderkeep.orders import is_order, order_anew, unlike
from orderkeep.webs import web_of
from tests.samples import all_webs, forward_ties, many_names, strange_things

FREE = web_of(["d", "c", "b", "a"], [("b", "c")])


def orders_of(web):
    return [list(some) for some in permutations(web[0]) if is_order(web, list(some))]


def plain_exchanges(one, other):
    row = list(one)
    told = []
    while True:
        wrong = [k for k in range(len(row) - 1) if other.index(row[k]) > other.index(row[k + 1])]
        if not wrong:
            return told
        k = wrong[0]
        row[k], row[k + 1] = row[k + 1], row[k]
        told.append(k)


def fewest(web, one):
    """For each order the least count of exchanges, of untied neighbours, that lead to it from one."""
    counts = {tuple(one): 0}
    edge = [tuple(one)]
    while edge:
        further = []
        for row in edge:
            for k in range(len(row) - 1):
                near = row[:k] + (row[k + 1], row[k]) + row[k + 2:]
                if is_order(web, list(near)) and near not in counts:
                    counts[near] = counts[row] + 1
                    further.append(near)
        edge = further
    return counts


class ExchangesTest(unittest.TestCase):
    def test_the_least_again_and_again(self):
        web = web_of(["d", "c", "b", "a"], [])
        self.assertEqual(exchanges(web, ["a", "b", "c", "d"], ["d", "c", "b", "a"]), [0, 1, 0, 2, 1, 0])
        self.assertEqual(exchanges(web, ["a", "b", "c", "d"], ["b", "c", "d", "a"]), [0, 1, 2])
        self.assertEqual(exchanges(web, ["a", "b", "c", "d"], ["d", "a", "b", "c"]), [2, 1, 0])
        self.assertEqual(exchanges(web, ["a", "b", "c", "d"], ["b", "a", "d", "c"]), [0, 2])
        self.assertEqual(exchanges(web, ["a", "b", "c", "d"], ["a", "b", "c", "d"]), [])
        self.assertEqual(exchanges(web_of([], []), [], []), [])

    def test_all_orders_as_many_as_unlike_pairs_and_no_fewer(self):
        for number, web in enumerate(all_webs(["b", "d", "a", "c"], False)):
            if number % 13 != 0:
                continue
            for one in orders_of(web):
                counts = fewest(web, one)
                for other in orders_of(web):
                    told = exchanges(web, one, other)
                    self.assertEqual(told, plain_exchanges(one, other))
                    self.assertEqual(len(told), len(unlike(web, one, other)))
                    self.assertEqual(len(told), counts[tuple(other)])
                    self.assertEqual(led(one, told), other)
                    self.assertIs(joins(web, one, other, told), True)

    def test_what_is_no_order(self):
        good = ["a", "b", "c", "d"]
        for thing in [
            ["c", "b", "a", "d"], ("a", "b", "c", "d"), ["a", "b", "c"], ["a", "b", "c", "d", "d"], "abcd", [], None, 0,
            True, {}, ["a", "b", "c", ["d"]], ["a", "b", "c", None], ["a", "b", "c", "e"],
        ] + strange_things():
            for one, other in ((thing, good), (good, thing), (thing, thing)):
                with self.assertRaises(NoOrder) as caught:
                    exchanges(FREE, one, other)
                self.assertEqual(caught.exception.__class__, NoOrder)
        with self.assertRaises(NoOrder):
            exchanges(web_of(["a"], [("a", "a")]), ["a"], ["a"])

    def test_great_webs(self):
        names = many_names(60)
        web = web_of(names, [])
        told = exchanges(web, names, names[::-1])
        self.assertEqual(len(told), 60 * 59 // 2)
        self.assertEqual(led(names, told), names[::-1])
        self.assertIs(joins(web, names, names[::-1], told), True)
        self.assertIs(joins(web, names, names[::-1], told[:-1]), False)
        ties = [(one, other) for one in names[:20] for other in names[40:]]
        web = web_of(names, ties)
        other = order_anew(web_of(names[::-1], ties))
        told = exchanges(web, names, other)
        self.assertEqual(len(told), len(unlike(web, names, other)))
        self.assertIs(joins(web, names, other, told), True)
        self.assertEqual(exchanges(web_of(names, forward_ties(names, 400)), names, names), [])

    def test_own_lists(self):
        one, other = ["a", "b", "c", "d"], ["b", "a", "c", "d"]
        exchanges(FREE, one, other).append(9)
        self.assertEqual(exchanges(FREE, one, other), [0])
        self.assertEqual((one, other), (["a", "b", "c", "d"], ["b", "a", "c", "d"]))


class LedTest(unittest.TestCase):
    def test_one_behind_the_other(self):
        self.assertEqual(led(["a", "b", "c"], [0, 1]), ["b", "c", "a"])
        self.assertEqual(led(["a", "b", "c"], [1, 0]), ["c", "a", "b"])
        self.assertEqual(led(["a", "b", "c"], [1, 1]), ["a", "b", "c"])
        self.assertEqual(led(["a", "b", "c"], []), ["a", "b", "c"])
        self.assertEqual(led([], []), [])

    def test_what_is_handed_in_stays_and_what_is_told_is_own(self):
        order, some = ["a", "b", "c"], [0]
        for told in (led(order, some), led(order, [])):
            told.append("z")
        self.assertEqual((order, some), (["a", "b", "c"], [0]))
        self.assertEqual(led(order, []), ["a", "b", "c"])


class JoinsTest(unittest.TestCase):
    def test_each_short_list_by_the_words(self):
        for web in (FREE, web_of(["d", "c", "b", "a"], []), web_of(["b", "c", "a", "d"], [("b", "c"), ("b", "a")])):
            orders = orders_of(web)
            for one in orders:
                for count in range(4):
                    for some in product((-1, 0, 1, 2, 3), repeat=count):
                        row = one
                        for k in some:
                            if row is None or not 0 <= k <= 2 or (row[k], row[k + 1]) in web[1]:
                                row = None
                                break
                            row = row[:k] + [row[k + 1], row[k]] + row[k + 2:]
                        for other in orders[:4] + [one]:
                            self.assertIs(joins(web, one, other, list(some)), row == other, (web, one, other, some))

    def test_tied_neighbours_are_not_exchanged(self):
        order = ["a", "b", "c", "d"]
        self.assertIs(joins(FREE, order, order, [1, 1]), False)
        self.assertIs(joins(FREE, order, order, [0, 0]), True)
        self.assertIs(joins(FREE, order, order, [2, 2, 0, 0]), True)
        self.assertIs(joins(FREE, order, order, []), True)

    def test_numbers_that_are_no_exchanges(self):
        one, other = ["a", "b", "c", "d"], ["b", "a", "c", "d"]
        self.assertIs(joins(FREE, one, other, [0]), True)
        for number in [-1, -4, 3, 4, 10 ** 29, -10 ** 29, False, True, "0", "", None, 0.0, [0], (0,), {}]:
            self.assertIs(joins(FREE, one, other, [number]), False, number)
            self.assertIs(joins(FREE, one, other, [0, number]), False, number)
            self.assertIs(joins(FREE, one, other, [number, 0]), False, number)
        self.assertIs(joins(web_of(["a"], []), ["a"], ["a"], [0]), False)
        self.assertIs(joins(web_of([], []), [], [], [0]), False)
        self.assertIs(joins(web_of([], []), [], [], [-1]), False)
        self.assertIs(joins(web_of([], []), [], [], []), True)

    def test_truths_lead_nowhere(self):
        web = web_of(["a", "b", "c"], [])
        self.assertIs(joins(web, ["a", "b", "c"], ["a", "c", "b"], [1]), True)
        self.assertIs(joins(web, ["a", "b", "c"], ["a", "c", "b"], [True]), False)
        self.assertIs(joins(web, ["a", "b", "c"], ["b", "a", "c"], [False]), False)

    def test_whatever_thing_in_the_place_of_the_list(self):
        one, other = ["a", "b", "c", "d"], ["b", "a", "c", "d"]
        for thing in [(0,), "0", 0, None, True, {0: 0}, {0}, (), "", range(0, 1), [[0]]] + strange_things():
            self.assertIs(joins(FREE, one, other, thing), False, repr(thing))
        for thing in strange_things():
            self.assertIs(joins(FREE, one, other, [thing]), False, repr(thing))
        for thing in ((), "", {}, None, 0, False, range(0)):
            self.assertIs(joins(FREE, one, one, thing), False, repr(thing))

    def test_what_is_handed_in_stays(self):
        one, other, some = ["a", "b", "c", "d"], ["b", "a", "c", "d"], [0]
        joins(FREE, one, other, some)
        self.assertEqual((one, other, some), (["a", "b", "c", "d"], ["b", "a", "c", "d"], [0]))


if __name__ == "__main__":
    unittest.main()
