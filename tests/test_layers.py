import unittest

from orderkeep.errors import Ring
from orderkeep.layers import layers, longest
from orderkeep.rings import ring_of
from orderkeep.webs import web_of
from tests.samples import all_webs, forward_ties, many_names, plain_ways, webs_without_ring


def plain_layer(web, thing):
    found = [plain_layer(web, one) for one, other in web[1] if other == thing]
    return 1 + max(found) if found else 0


class LayersTest(unittest.TestCase):
    def test_by_places_however_the_ties_stand(self):
        ties = [("a", "b"), ("b", "c"), ("a", "c"), ("d", "c")]
        for stand in (ties, ties[::-1], ties[2:] + ties[:2]):
            self.assertEqual(layers(web_of(["c", "d", "a", "b"], stand)), [2, 0, 0, 1])
            self.assertEqual(layers(web_of(["a", "b", "c", "d"], stand)), [0, 1, 2, 0])

    def test_the_greatest_layer_of_the_priors_counts(self):
        web = web_of(["e", "a", "b", "c", "d"], [("a", "e"), ("a", "b"), ("b", "c"), ("c", "e"), ("d", "e")])
        self.assertEqual(layers(web), [3, 0, 1, 2, 0])

    def test_all_webs_of_four_things(self):
        for web in webs_without_ring(["b", "d", "a", "c"]):
            self.assertEqual(layers(web), [plain_layer(web, thing) for thing in web[0]], web)

    def test_without_things_and_without_ties(self):
        self.assertEqual(layers(web_of([], [])), [])
        self.assertEqual(layers(web_of(["a"], [])), [0])
        self.assertEqual(layers(web_of(["b", "a", "c"], [])), [0, 0, 0])


class LongestTest(unittest.TestCase):
    def test_a_way_with_as_many_things_as_unlike_layers(self):
        for web in webs_without_ring(["b", "d", "a", "c"]):
            told = longest(web)
            self.assertIsInstance(told, list)
            self.assertIn(told, plain_ways(web), web)
            self.assertEqual(len(told), len(set(layers(web))), web)
            self.assertEqual(len(told), max(len(way) for way in plain_ways(web)), web)

    def test_where_there_is_but_one(self):
        web = web_of(["e", "d", "c", "b", "a"], [("d", "e"), ("b", "c"), ("a", "b"), ("a", "c")])
        self.assertEqual(longest(web), ["a", "b", "c"])

    def test_without_things_and_without_ties(self):
        self.assertEqual(longest(web_of([], [])), [])
        self.assertEqual(longest(web_of(["a"], [])), ["a"])
        self.assertIn(longest(web_of(["b", "a"], [])), (["a"], ["b"]))

    def test_great_webs(self):
        names = many_names(60)
        web = web_of(names[::-1], forward_ties(names, 400))
        self.assertEqual(layers(web), list(range(59, -1, -1)))
        self.assertEqual(longest(web), names)
        flat = web_of(names, [(one, other) for one in names[:20] for other in names[40:]])
        self.assertEqual(layers(flat), [0] * 40 + [1] * 20)
        self.assertIn(tuple(longest(flat)), flat[1])


class RefusedTest(unittest.TestCase):
    def test_a_web_with_a_ring(self):
        for web in all_webs(["c", "a", "b"], True):
            ring = ring_of(web)
            for ask in (layers, longest):
                if ring is None:
                    self.assertEqual(len(set(layers(web))), len(longest(web)))
                    continue
                with self.assertRaises(Ring) as caught:
                    ask(web)
                self.assertEqual(caught.exception.__class__, Ring)
                self.assertEqual(caught.exception.ring, ring)

    def test_the_ring_of_the_web_is_told(self):
        web = web_of(["a", "b", "c", "d"], [("a", "b"), ("d", "c"), ("c", "d"), ("a", "a")])
        for ask in (layers, longest):
            for turn in range(2):
                with self.assertRaises(Ring) as caught:
                    ask(web)
                self.assertEqual(caught.exception.ring, ["d", "c"])
                caught.exception.ring.clear()


class OwnTest(unittest.TestCase):
    def test_own_lists(self):
        web = web_of(["b", "a"], [("a", "b")])
        layers(web).clear()
        longest(web).clear()
        self.assertEqual((layers(web), longest(web)), ([1, 0], ["a", "b"]))
        longest(web_of([], [])).append("z")
        self.assertEqual(longest(web_of([], [])), [])


if __name__ == "__main__":
    unittest.main()
