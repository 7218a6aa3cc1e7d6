import unittest
from itertools import product

from orderkeep.depths import deepest, depths, shows_deepest
from orderkeep.errors import NoWeights, Ring
from orderkeep.webs import web_of
from tests.samples import forward_ties, many_names, plain_ways, strange_things, webs_without_ring

# a > b > c weighs 6, d alone 5, a > c weighs 4
LINE = web_of(["c", "d", "b", "a"], [("b", "c"), ("a", "b"), ("a", "c")])
WEIGHTS = [3, 5, 2, 1]
LONG = 10 ** 29
SOME_WEIGHTS = [
    [1, 1, 1, 1], [0, 0, 0, 0], [-1, -1, -1, -1], [-3, -1, -4, -2], [5, -7, 2, 0], [-2, 3, -1, 4], [0, -1, 1, 0],
    [LONG, -LONG, LONG + 1, -1], (2, -1, -1, 2),
]
NO_WEIGHTS = [
    [], [1], [3, 5, 2], [3, 5, 2, 1, 0], (), (3, 5, 2), (3, 5, 2, 1, 0), [True, 5, 2, 1], [3, 5, 2, False],
    (3, True, 2, 1), [3, 5, 2, "1"], ["3", "5", "2", "1"], [3, 5, 2, None], [3, 5, 2, 1.0], [3, 5, 2, [1]],
    [3, 5, 2, (1,)], [3, 5, 2, {}], "3521", "", "abcd", None, True, False, 0, 4, {}, {"c": 3, "d": 5, "b": 2, "a": 1},
    {0: 3, 1: 5, 2: 2, 3: 1}, {3, 5, 2, 1}, range(4), [[3, 5, 2, 1]],
]


def weight_of(web, weights, way):
    return sum(weights[web[0].index(thing)] for thing in way)


def plain_depths(web, weights):
    ways = plain_ways(web)
    return [max(weight_of(web, weights, way) for way in ways if way[-1] == thing) for thing in web[0]]


def shows_by_the_words(web, weights, told):
    most, way, bounds = told
    at = dict(zip(web[0], bounds))
    weighed = dict(zip(web[0], weights))
    return (way in plain_ways(web) and weight_of(web, weights, way) == most and len(bounds) == len(web[0])
            and all(at[thing] >= weighed[thing] for thing in web[0]) and all(at[thing] <= most for thing in web[0])
            and all(at[other] >= at[one] + weighed[other] for one, other in web[1]))


class DepthsTest(unittest.TestCase):
    def test_by_places(self):
        self.assertEqual(depths(LINE, WEIGHTS), [6, 5, 3, 1])
        self.assertEqual(depths(LINE, tuple(WEIGHTS)), [6, 5, 3, 1])
        self.assertEqual(depths(web_of([], []), []), [])
        self.assertEqual(depths(web_of([], []), ()), [])
        self.assertEqual(depths(web_of(["b", "a"], []), [4, -4]), [4, -4])

    def test_all_weights_below_0(self):
        self.assertEqual(depths(LINE, [-3, -5, -2, -1]), [-3, -5, -2, -1])
        self.assertEqual(deepest(LINE, [-3, -5, -2, -1]), (-1, ["a"], [-3, -5, -2, -1]))

    def test_weights_below_0_on_the_way(self):
        self.assertEqual(depths(LINE, [3, 0, -2, 4]), [7, 0, 2, 4])
        self.assertEqual(depths(LINE, [3, 0, 2, -4]), [5, 0, 2, -4])
        self.assertEqual(deepest(LINE, [3, 0, 2, -4])[:2], (5, ["b", "c"]))
        self.assertEqual(deepest(LINE, [3, 0, -2, 4])[:2], (7, ["a", "c"]))

    def test_weights_of_thirty_figures(self):
        weights = [10 ** 30 - 1, -(10 ** 30 - 1), 10 ** 29, 10 ** 30 - 2]
        self.assertEqual(depths(LINE, weights), [21 * 10 ** 29 - 3, 1 - 10 ** 30, 11 * 10 ** 29 - 2, 10 ** 30 - 2])

    def test_all_webs_of_four_things(self):
        for web in webs_without_ring(["b", "d", "a", "c"]):
            for weights in SOME_WEIGHTS:
                told = depths(web, weights)
                self.assertIsInstance(told, list)
                self.assertEqual(told, plain_depths(web, weights), (web, weights))

    def test_great_webs(self):
        names = many_names(60)
        web = web_of(names[::-1], forward_ties(names, 400))
        weights = [(-1) ** k * k for k in range(60)]
        told = deepest(web, weights)
        self.assertEqual(told[2], depths(web, weights))
        self.assertIs(shows_deepest(web, weights, told), True)
        self.assertEqual(deepest(web, [1] * 60), (60, names, list(range(60, 0, -1))))


class DeepestTest(unittest.TestCase):
    def test_weight_way_and_depths(self):
        self.assertEqual(deepest(LINE, WEIGHTS), (6, ["a", "b", "c"], [6, 5, 3, 1]))
        self.assertEqual(deepest(LINE, (3, 7, 2, 1)), (7, ["d"], [6, 7, 3, 1]))

    def test_without_things(self):
        self.assertIsNone(deepest(web_of([], []), []))
        self.assertIsNone(deepest(web_of([], []), ()))

    def test_no_way_weighs_more(self):
        for web in webs_without_ring(["b", "d", "a", "c"]):
            for weights in SOME_WEIGHTS:
                told = deepest(web, weights)
                self.assertEqual([part.__class__ for part in told], [int, list, list])
                self.assertIn(told[1], plain_ways(web))
                self.assertEqual(told[0], weight_of(web, weights, told[1]))
                self.assertEqual(told[0], max(weight_of(web, weights, way) for way in plain_ways(web)))
                self.assertEqual(told[2], plain_depths(web, weights))
                self.assertIs(shows_deepest(web, weights, told), True)


class RefusedTest(unittest.TestCase):
    def test_what_is_no_weights(self):
        for ask in (depths, deepest, lambda web, weights: shows_deepest(web, weights, (6, ["a"], [6, 5, 3, 1]))):
            for weights in NO_WEIGHTS + strange_things():
                with self.assertRaises(NoWeights, msg=repr(weights)) as caught:
                    ask(LINE, weights)
                self.assertEqual(caught.exception.__class__, NoWeights)
            for weights in ["", None, {}, False, 0, [1], (0,), [None], range(0)]:
                with self.assertRaises(NoWeights, msg=repr(weights)):
                    ask(web_of([], []), weights)

    def test_ring_goes_ahead(self):
        for ties, ring in (([("a", "b"), ("d", "c"), ("c", "d")], ["d", "c"]), ([("d", "a"), ("b", "b")], ["b"])):
            web = web_of(["a", "b", "c", "d"], ties)
            for ask in (depths, deepest, lambda web, weights: shows_deepest(web, weights, None)):
                for weights in [[1, 2, 3, 4], (1, 2, 3, 4)] + NO_WEIGHTS + strange_things():
                    with self.assertRaises(Ring, msg=repr(weights)) as caught:
                        ask(web, weights)
                    self.assertEqual(caught.exception.__class__, Ring)
                    self.assertEqual(caught.exception.ring, ring)


class ShowsTest(unittest.TestCase):
    def shows(self, told):
        return shows_deepest(LINE, WEIGHTS, told)

    def test_each_told_thing_of_small_numbers_by_the_words(self):
        web = web_of(["b", "a", "c"], [("a", "b")])
        lists = [list(some) for count in range(4) for some in product(web[0], repeat=count)]
        for weights in ([1, 1, 2], [1, -1, 0], [-1, -1, -2]):
            for way in lists:
                for most in range(-2, 3):
                    for bounds in product(range(-2, 4), repeat=3):
                        told = (most, way, list(bounds))
                        self.assertIs(shows_deepest(web, weights, told), shows_by_the_words(web, weights, told), told)

    def test_other_right_ones(self):
        for bounds in ([6, 5, 3, 1], [6, 6, 3, 1]):
            self.assertIs(self.shows((6, ["a", "b", "c"], bounds)), True, bounds)
        loose = web_of(["c", "b", "a"], [("a", "b")])
        for way in (["a", "b"], ["c"]):
            self.assertIs(shows_deepest(loose, [3, 1, 2], (3, way, [3, 3, 2])), True, way)
            self.assertIs(shows_deepest(loose, [3, 1, 2], (3, way, [3, 3, 1])), False, way)
        self.assertIs(shows_deepest(loose, [9, 1, 2], (9, ["c"], [9, 5, 4])), True)
        self.assertIs(shows_deepest(loose, [9, 1, 2], (9, ["c"], [9, 9, 8])), True)
        self.assertIs(shows_deepest(loose, [9, 1, 2], (9, ["c"], [9, 9, 9])), False)

    def test_depths_too_small_too_great_too_few(self):
        for bounds in [
            [5, 5, 3, 1], [6, 4, 3, 1], [6, 5, 2, 1], [6, 5, 3, 0], [7, 5, 3, 1], [6, 7, 3, 1], [6, 5, 4, 1],
            [6, 5, 3, 2], [6, 5, 3], [6, 5, 3, 1, 1], [], [6, 5, 3, -LONG], [LONG, 5, 3, 1],
        ]:
            self.assertIs(self.shows((6, ["a", "b", "c"], bounds)), False, bounds)

    def test_a_way_that_is_none_or_weighs_something_else(self):
        good = [6, 5, 3, 1]
        for way in [
            [], ["a"], ["c"], ["a", "c"], ["b", "c"], ["c", "b", "a"], ["d"], ["a", "b", "c", "c"],
            ["a", "b", "c", "a"],
            ["b", "b", "b"], ["c", "c"], ["d", "a"], ["a", "d"], ["a", "b", "x"], ["a", "b", "c", ""],
        ]:
            self.assertIs(self.shows((6, way, good)), False, way)
        for most in (5, 7, 0, -6, LONG, -LONG):
            self.assertIs(self.shows((most, ["a", "b", "c"], good)), False, most)

    def test_longer_numbers(self):
        great = 10 ** 700
        web = web_of(["b", "a"], [("a", "b")])
        self.assertIs(shows_deepest(web, [great, 1], (great + 1, ["a", "b"], [great + 1, 1])), True)
        self.assertIs(shows_deepest(web, [great, 1], (great + 1, ["a", "b"], [great + 2, 1])), False)
        self.assertIs(shows_deepest(web, [2, 1], (3, ["a", "b"], [great, 1])), False)
        self.assertIs(shows_deepest(web, [2, 1], (3, ["a", "b"], [3, -great])), False)
        self.assertIs(shows_deepest(web, [2, 1], (great, ["a", "b"], [great, 1])), False)

    def test_truths_in_the_place_of_numbers(self):
        web = web_of(["a"], [])
        self.assertIs(shows_deepest(web, [1], (1, ["a"], [1])), True)
        self.assertIs(shows_deepest(web, [0], (0, ["a"], [0])), True)
        for told in [
            (True, ["a"], [1]), (1, ["a"], [True]), (True, ["a"], [True]), (1.0, ["a"], [1]), (1, ["a"], [1.0]),
        ]:
            self.assertIs(shows_deepest(web, [1], told), False, told)
        for told in [(False, ["a"], [0]), (0, ["a"], [False])]:
            self.assertIs(shows_deepest(web, [0], told), False, told)

    def test_other_forms(self):
        way, good = ["a", "b", "c"], [6, 5, 3, 1]
        for told in [
            [6, way, good], (6, tuple(way), good), (6, way, tuple(good)), (6, way), (6, way, good, good), (), (6,),
            (6, good, way), (way, 6, good), ("6", way, good), (None, way, good), (6, "abc", good), (6, None, good),
            (6, way, None), (6, way, "6531"), (6, way, dict(zip(LINE[0], good))), {6: way}, "6", 6, None, True, [], "",
            (6, way, [6, 5, 3, "1"]), (6, way, [6, 5, 3, None]), (6, way, [6, 5, 3, [1]]), (6, way, [good]),
            (6, [way], good), (6, ["a", "b", ["c"]], good), (6, ["a", "b", None], good), (6, {"a", "b", "c"}, good),
        ] + strange_things():
            self.assertIs(self.shows(told), False, repr(told))
        for thing in strange_things():
            for told in [
                (thing, way, good), (6, thing, good), (6, way, thing), (thing, thing, thing), (6, [thing], good),
                (6, way + [thing], good), (6, way, [thing]), (6, way, good[:3] + [thing]), (6, way, [thing] * 4),
            ]:
                self.assertIs(self.shows(told), False, repr(told))

    def test_without_things_none_alone(self):
        web = web_of([], [])
        self.assertIs(shows_deepest(web, [], None), True)
        self.assertIs(shows_deepest(web, (), None), True)
        for told in [(0, [], []), (), [], 0, False, "", {}, (None,), [None]]:
            self.assertIs(shows_deepest(web, [], told), False, repr(told))
        for told in strange_things():
            self.assertIs(shows_deepest(web, [], told), told is None, repr(told))
            self.assertIs(shows_deepest(web_of(["a"], []), [0], told), False, repr(told))


class OwnTest(unittest.TestCase):
    def test_what_is_handed_in_stays(self):
        weights, told = list(WEIGHTS), (6, ["a", "b", "c"], [6, 5, 3, 1])
        depths(LINE, weights)
        deepest(LINE, weights)
        shows_deepest(LINE, weights, told)
        self.assertEqual((weights, told), (WEIGHTS, (6, ["a", "b", "c"], [6, 5, 3, 1])))

    def test_own_lists(self):
        weights = list(WEIGHTS)
        first = deepest(LINE, weights)
        depths(LINE, weights).clear()
        self.assertEqual(depths(LINE, weights), [6, 5, 3, 1])
        weights.clear()
        self.assertEqual(first, (6, ["a", "b", "c"], [6, 5, 3, 1]))
        first[1].clear()
        first[2].append(0)
        self.assertEqual(deepest(LINE, WEIGHTS), (6, ["a", "b", "c"], [6, 5, 3, 1]))


if __name__ == "__main__":
    unittest.main()
